
/- PrimTable: the whole catalogue. -/

import Derived.Test.YtelcagfaflpolaaGreatPF
import Derived.Test.YtelcagfaflpolaaGreatPM
import Derived.Test.YtelcagfaflpolaaGreatPVr
import Derived.Deep.RegionHeld3

namespace Go.Proofs.YtelcagfaflpolaaGreat

open Go.RowKit Go.Maps

set_option linter.unusedVariables false

set_option maxRecDepth 20000 in
theorem tell_eq (k : Nat) (hk : k < 43) (w : World) : (binOp .neq 27 (.agg #[.string (pS k), .bool (pMb k), .bool (pDb k), .int .i64 (pR k), .int .i64 (pL k), .int .i64 (pG k), .int .i64 (pI k), .bool (pH k), .bool (pC k)]) (.agg #[.string (pS k), .bool (pMb k), .bool (pDb k), .int .i64 (pR k), .int .i64 (pL k), .int .i64 (pG k), .int .i64 (pI k), .bool (pH k), .bool (pC k)])).run Tryz.prog w = .ok (.bool false) w := by
  match k, hk with
  | 0, _ => refine (?_ : _ = _); kernel_rfl
  | 1, _ => refine (?_ : _ = _); kernel_rfl
  | 2, _ => refine (?_ : _ = _); kernel_rfl
  | 3, _ => refine (?_ : _ = _); kernel_rfl
  | 4, _ => refine (?_ : _ = _); kernel_rfl
  | 5, _ => refine (?_ : _ = _); kernel_rfl
  | 6, _ => refine (?_ : _ = _); kernel_rfl
  | 7, _ => refine (?_ : _ = _); kernel_rfl
  | 8, _ => refine (?_ : _ = _); kernel_rfl
  | 9, _ => refine (?_ : _ = _); kernel_rfl
  | 10, _ => refine (?_ : _ = _); kernel_rfl
  | 11, _ => refine (?_ : _ = _); kernel_rfl
  | 12, _ => refine (?_ : _ = _); kernel_rfl
  | 13, _ => refine (?_ : _ = _); kernel_rfl
  | 14, _ => refine (?_ : _ = _); kernel_rfl
  | 15, _ => refine (?_ : _ = _); kernel_rfl
  | 16, _ => refine (?_ : _ = _); kernel_rfl
  | 17, _ => refine (?_ : _ = _); kernel_rfl
  | 18, _ => refine (?_ : _ = _); kernel_rfl
  | 19, _ => refine (?_ : _ = _); kernel_rfl
  | 20, _ => refine (?_ : _ = _); kernel_rfl
  | 21, _ => refine (?_ : _ = _); kernel_rfl
  | 22, _ => refine (?_ : _ = _); kernel_rfl
  | 23, _ => refine (?_ : _ = _); kernel_rfl
  | 24, _ => refine (?_ : _ = _); kernel_rfl
  | 25, _ => refine (?_ : _ = _); kernel_rfl
  | 26, _ => refine (?_ : _ = _); kernel_rfl
  | 27, _ => refine (?_ : _ = _); kernel_rfl
  | 28, _ => refine (?_ : _ = _); kernel_rfl
  | 29, _ => refine (?_ : _ = _); kernel_rfl
  | 30, _ => refine (?_ : _ = _); kernel_rfl
  | 31, _ => refine (?_ : _ = _); kernel_rfl
  | 32, _ => refine (?_ : _ = _); kernel_rfl
  | 33, _ => refine (?_ : _ = _); kernel_rfl
  | 34, _ => refine (?_ : _ = _); kernel_rfl
  | 35, _ => refine (?_ : _ = _); kernel_rfl
  | 36, _ => refine (?_ : _ = _); kernel_rfl
  | 37, _ => refine (?_ : _ = _); kernel_rfl
  | 38, _ => refine (?_ : _ = _); kernel_rfl
  | 39, _ => refine (?_ : _ = _); kernel_rfl
  | 40, _ => refine (?_ : _ = _); kernel_rfl
  | 41, _ => refine (?_ : _ = _); kernel_rfl
  | 42, _ => refine (?_ : _ = _); kernel_rfl
  | _ + 43, h => exact absurd h (by omega)
theorem tell_zero (w : World) : (binOp .neq 27 (.agg #[.string ⟨#[]⟩, .bool false, .bool false, .int .i64 0, .int .i64 0, .int .i64 0, .int .i64 0, .bool false, .bool false]) (.agg #[.string ⟨#[]⟩, .bool false, .bool false, .int .i64 0, .int .i64 0, .int .i64 0, .int .i64 0, .bool false, .bool false])).run Tryz.prog w = .ok (.bool false) w := by kernel_rfl
theorem str_eq (k : Nat) (hk : k < 43) (w : World) : (binOp .neq 9 (.string (pS k)) (.string (pS k))).run Tryz.prog w = .ok (.bool false) w := by
  match k, hk with
  | 0, _ => refine (?_ : _ = _); kernel_rfl
  | 1, _ => refine (?_ : _ = _); kernel_rfl
  | 2, _ => refine (?_ : _ = _); kernel_rfl
  | 3, _ => refine (?_ : _ = _); kernel_rfl
  | 4, _ => refine (?_ : _ = _); kernel_rfl
  | 5, _ => refine (?_ : _ = _); kernel_rfl
  | 6, _ => refine (?_ : _ = _); kernel_rfl
  | 7, _ => refine (?_ : _ = _); kernel_rfl
  | 8, _ => refine (?_ : _ = _); kernel_rfl
  | 9, _ => refine (?_ : _ = _); kernel_rfl
  | 10, _ => refine (?_ : _ = _); kernel_rfl
  | 11, _ => refine (?_ : _ = _); kernel_rfl
  | 12, _ => refine (?_ : _ = _); kernel_rfl
  | 13, _ => refine (?_ : _ = _); kernel_rfl
  | 14, _ => refine (?_ : _ = _); kernel_rfl
  | 15, _ => refine (?_ : _ = _); kernel_rfl
  | 16, _ => refine (?_ : _ = _); kernel_rfl
  | 17, _ => refine (?_ : _ = _); kernel_rfl
  | 18, _ => refine (?_ : _ = _); kernel_rfl
  | 19, _ => refine (?_ : _ = _); kernel_rfl
  | 20, _ => refine (?_ : _ = _); kernel_rfl
  | 21, _ => refine (?_ : _ = _); kernel_rfl
  | 22, _ => refine (?_ : _ = _); kernel_rfl
  | 23, _ => refine (?_ : _ = _); kernel_rfl
  | 24, _ => refine (?_ : _ = _); kernel_rfl
  | 25, _ => refine (?_ : _ = _); kernel_rfl
  | 26, _ => refine (?_ : _ = _); kernel_rfl
  | 27, _ => refine (?_ : _ = _); kernel_rfl
  | 28, _ => refine (?_ : _ = _); kernel_rfl
  | 29, _ => refine (?_ : _ = _); kernel_rfl
  | 30, _ => refine (?_ : _ = _); kernel_rfl
  | 31, _ => refine (?_ : _ = _); kernel_rfl
  | 32, _ => refine (?_ : _ = _); kernel_rfl
  | 33, _ => refine (?_ : _ = _); kernel_rfl
  | 34, _ => refine (?_ : _ = _); kernel_rfl
  | 35, _ => refine (?_ : _ = _); kernel_rfl
  | 36, _ => refine (?_ : _ = _); kernel_rfl
  | 37, _ => refine (?_ : _ = _); kernel_rfl
  | 38, _ => refine (?_ : _ = _); kernel_rfl
  | 39, _ => refine (?_ : _ = _); kernel_rfl
  | 40, _ => refine (?_ : _ = _); kernel_rfl
  | 41, _ => refine (?_ : _ = _); kernel_rfl
  | 42, _ => refine (?_ : _ = _); kernel_rfl
  | _ + 43, h => exact absurd h (by omega)
set_option maxRecDepth 20000 in
theorem of_k (k : Nat) (hk : k < 43) : (spD 43).atKey (.string (pS k).data.toList) (.lit (.int .i64 0)) = .lit (.int .i64 ((k : Int) + 1)) := by
  match k, hk with
  | 0, _ => refine (?_ : _ = _); kernel_rfl
  | 1, _ => refine (?_ : _ = _); kernel_rfl
  | 2, _ => refine (?_ : _ = _); kernel_rfl
  | 3, _ => refine (?_ : _ = _); kernel_rfl
  | 4, _ => refine (?_ : _ = _); kernel_rfl
  | 5, _ => refine (?_ : _ = _); kernel_rfl
  | 6, _ => refine (?_ : _ = _); kernel_rfl
  | 7, _ => refine (?_ : _ = _); kernel_rfl
  | 8, _ => refine (?_ : _ = _); kernel_rfl
  | 9, _ => refine (?_ : _ = _); kernel_rfl
  | 10, _ => refine (?_ : _ = _); kernel_rfl
  | 11, _ => refine (?_ : _ = _); kernel_rfl
  | 12, _ => refine (?_ : _ = _); kernel_rfl
  | 13, _ => refine (?_ : _ = _); kernel_rfl
  | 14, _ => refine (?_ : _ = _); kernel_rfl
  | 15, _ => refine (?_ : _ = _); kernel_rfl
  | 16, _ => refine (?_ : _ = _); kernel_rfl
  | 17, _ => refine (?_ : _ = _); kernel_rfl
  | 18, _ => refine (?_ : _ = _); kernel_rfl
  | 19, _ => refine (?_ : _ = _); kernel_rfl
  | 20, _ => refine (?_ : _ = _); kernel_rfl
  | 21, _ => refine (?_ : _ = _); kernel_rfl
  | 22, _ => refine (?_ : _ = _); kernel_rfl
  | 23, _ => refine (?_ : _ = _); kernel_rfl
  | 24, _ => refine (?_ : _ = _); kernel_rfl
  | 25, _ => refine (?_ : _ = _); kernel_rfl
  | 26, _ => refine (?_ : _ = _); kernel_rfl
  | 27, _ => refine (?_ : _ = _); kernel_rfl
  | 28, _ => refine (?_ : _ = _); kernel_rfl
  | 29, _ => refine (?_ : _ = _); kernel_rfl
  | 30, _ => refine (?_ : _ = _); kernel_rfl
  | 31, _ => refine (?_ : _ = _); kernel_rfl
  | 32, _ => refine (?_ : _ = _); kernel_rfl
  | 33, _ => refine (?_ : _ = _); kernel_rfl
  | 34, _ => refine (?_ : _ = _); kernel_rfl
  | 35, _ => refine (?_ : _ = _); kernel_rfl
  | 36, _ => refine (?_ : _ = _); kernel_rfl
  | 37, _ => refine (?_ : _ = _); kernel_rfl
  | 38, _ => refine (?_ : _ = _); kernel_rfl
  | 39, _ => refine (?_ : _ = _); kernel_rfl
  | 40, _ => refine (?_ : _ = _); kernel_rfl
  | 41, _ => refine (?_ : _ = _); kernel_rfl
  | 42, _ => refine (?_ : _ = _); kernel_rfl
  | _ + 43, h => exact absurd h (by omega)
set_option maxRecDepth 20000 in
theorem has_k (k : Nat) (hk : k < 43) : has (spD 43) (.string (pS k).data.toList) = true := by
  match k, hk with
  | 0, _ => refine (?_ : _ = _); kernel_rfl
  | 1, _ => refine (?_ : _ = _); kernel_rfl
  | 2, _ => refine (?_ : _ = _); kernel_rfl
  | 3, _ => refine (?_ : _ = _); kernel_rfl
  | 4, _ => refine (?_ : _ = _); kernel_rfl
  | 5, _ => refine (?_ : _ = _); kernel_rfl
  | 6, _ => refine (?_ : _ = _); kernel_rfl
  | 7, _ => refine (?_ : _ = _); kernel_rfl
  | 8, _ => refine (?_ : _ = _); kernel_rfl
  | 9, _ => refine (?_ : _ = _); kernel_rfl
  | 10, _ => refine (?_ : _ = _); kernel_rfl
  | 11, _ => refine (?_ : _ = _); kernel_rfl
  | 12, _ => refine (?_ : _ = _); kernel_rfl
  | 13, _ => refine (?_ : _ = _); kernel_rfl
  | 14, _ => refine (?_ : _ = _); kernel_rfl
  | 15, _ => refine (?_ : _ = _); kernel_rfl
  | 16, _ => refine (?_ : _ = _); kernel_rfl
  | 17, _ => refine (?_ : _ = _); kernel_rfl
  | 18, _ => refine (?_ : _ = _); kernel_rfl
  | 19, _ => refine (?_ : _ = _); kernel_rfl
  | 20, _ => refine (?_ : _ = _); kernel_rfl
  | 21, _ => refine (?_ : _ = _); kernel_rfl
  | 22, _ => refine (?_ : _ = _); kernel_rfl
  | 23, _ => refine (?_ : _ = _); kernel_rfl
  | 24, _ => refine (?_ : _ = _); kernel_rfl
  | 25, _ => refine (?_ : _ = _); kernel_rfl
  | 26, _ => refine (?_ : _ = _); kernel_rfl
  | 27, _ => refine (?_ : _ = _); kernel_rfl
  | 28, _ => refine (?_ : _ = _); kernel_rfl
  | 29, _ => refine (?_ : _ = _); kernel_rfl
  | 30, _ => refine (?_ : _ = _); kernel_rfl
  | 31, _ => refine (?_ : _ = _); kernel_rfl
  | 32, _ => refine (?_ : _ = _); kernel_rfl
  | 33, _ => refine (?_ : _ = _); kernel_rfl
  | 34, _ => refine (?_ : _ = _); kernel_rfl
  | 35, _ => refine (?_ : _ = _); kernel_rfl
  | 36, _ => refine (?_ : _ = _); kernel_rfl
  | 37, _ => refine (?_ : _ = _); kernel_rfl
  | 38, _ => refine (?_ : _ = _); kernel_rfl
  | 39, _ => refine (?_ : _ = _); kernel_rfl
  | 40, _ => refine (?_ : _ = _); kernel_rfl
  | 41, _ => refine (?_ : _ = _); kernel_rfl
  | 42, _ => refine (?_ : _ = _); kernel_rfl
  | _ + 43, h => exact absurd h (by omega)
theorem of_spell (k : Nat) (hk : k < 43) (w : World) : Calls Tryz.prog 12 #[.string (pS k)] w fun e w' => e = .returned (.tuple #[.int .i64 ((k : Int) + 1), .bool true]) ∧ Below w.heap.size w w' :=
  of_any (pS k) (by have := pS_short k hk; unfold maxLen; omega) _ _ (of_k k hk) (has_k k hk) w
end Go.Proofs.YtelcagfaflpolaaGreat





namespace Go.Proofs.YtelcagfaflpolaaGreat

open Go.RowKit

set_option linter.unusedVariables false

set_option maxRecDepth 20000 in
set_option maxHeartbeats 8000000 in
theorem table_walk (w : World) : Calls Tryz.prog 3 #[] w fun e w' => e = .returned (.bool true) ∧ Below w.heap.size w w' := by
  have hbg := begun9_any w
  have cs := spl_any
  have tsl := splL_at _ rfl
  generalize splL = SL at *
  go_enter Tryz.func3, Tryz.ntmps3
  go_wp2_with (first
    | (go_at_call 8; (with_reducible refine hbg.mono ?_); rintro e w1 ⟨rfl, b1⟩
       clear hbg)
    | (go_at_call 9; (with_reducible refine (cs _).mono ?_); rintro e w2 ⟨rfl, rfl⟩
       have b2 := btw b1 (box_below w1 (.cells SL.toArray 9)) b1.size
       have ns := allocNew w1 (.cells SL.toArray 9)
       clear cs))
  have gs : w1.heap.size < (w1.alloc (.cells SL.toArray 9)).heap.size := by simp
  generalize w1.alloc (.cells SL.toArray 9) = WS at *
  have CK : ∀ V k, Below WS.heap.size WS V → k < 43 → V.cell? ⟨w1.heap.size, k, none⟩ = some (.string (pS k)) := fun V k b hk => (b.cell (p := ⟨w1.heap.size, k, none⟩) gs).trans ((cell_of_row _ _ _ _ _ (0, 0) ns).trans (by simpa using tsl k hk))
  have HC : Hid (∀ V k, Below WS.heap.size WS V → k < 43 → V.cell? ⟨w1.heap.size, k, none⟩ = some (.string (pS k))) := CK
  generalize w1.heap.size = gR at *
  clear CK tsl ns
  go_loopw [2] (fun a V => ∃ j : Nat, j ≤ 46 ∧ a = .int .i64 ((j : Int) - 1) ∧ Below WS.heap.size WS V) (fun a _ => 46 - ((intOf a) + 1).toNat)
  case atStart => exact ⟨0, by omega, rfl, Below.refl _ _⟩
  case round =>
    obtain ⟨j, hj, rfl, bel⟩ := hrel
    have bw := btw b2 bel b2.size
    have wj : IntKind.i64.wrap ((j : Int) - 1 + 1) = ((j + 1 : Nat) : Int) - 1 := (wrapIn _ (by omega)).trans (by omega)
    by_cases hlt : j < 46
    · have t1 : decide ((j : Int) - 1 ≤ 44) = true := by simp; omega
      by_cases ho : (j : Int) - 1 < 1 ∨ 43 < (j : Int) - 1
      · have hi := fun W => info_no ((j : Int) - 1) W ho
        have hr := fun W => rinfo_no ((j : Int) - 1) W ho
        have te := tell_zero
        generalize hop : (j : Int) - 1 = op at *
        go_wp2_with (first
          | (go_at_call 10; (with_reducible refine (hi _).mono ?_); rintro e v1 ⟨rfl, d1⟩
             have kb1 := box_below v1 (.cells #[.string ⟨#[]⟩, .bool false, .bool false, .int .i64 0, .int .i64 0, .int .i64 0, .int .i64 0, .bool false, .bool false] 27)
             have d2 := btw d1 kb1 d1.size
             have n1 := allocNew v1 (.cells #[.string ⟨#[]⟩, .bool false, .bool false, .int .i64 0, .int .i64 0, .int .i64 0, .int .i64 0, .bool false, .bool false] 27)
             clear hi)
          | (go_at_call 11; (with_reducible refine (hr _).mono ?_); rintro e v2 ⟨rfl, d3⟩
             have kb2 := box_below v2 (.cells #[.string ⟨#[]⟩, .bool false, .bool false, .int .i64 0, .int .i64 0, .int .i64 0, .int .i64 0, .bool false, .bool false] 27)
             have d4 := btw d3 kb2 d3.size
             have n2 := allocNew v2 (.cells #[.string ⟨#[]⟩, .bool false, .bool false, .int .i64 0, .int .i64 0, .int .i64 0, .int .i64 0, .bool false, .bool false] 27)
             have m1 := (d4.block v1.heap.size (by simp)).trans n1
             have d5 := btw d2 d4 d2.size
             obtain ⟨⟨e0, e1, e2, e3, e4, e5, e6, e7, e8⟩, _⟩ := bx9 m1
             obtain ⟨⟨f0, f1, f2, f3, f4, f5, f6, f7, f8⟩, _⟩ := bx9 n2
             clear hr))
        go_roundw
        case rel => exact ⟨j + 1, by omega, by congr 1; omega, btw bel d5 bel.size⟩
        case measure => simp [intOf]; omega
      · obtain ⟨k, hk⟩ : ∃ k : Nat, (j : Int) - 1 = (k : Int) + 1 := ⟨j - 2, by omega⟩
        have hk43 : k < 43 := by omega
        rw [hk] at t1 wj ⊢
        have hi := info_yes k hk43
        have hr := rinfo_yes k hk43
        have te := tell_eq k hk43
        have tz := str_eq k hk43
        have hof := of_spell k hk43
        have k43 : (k : Int) < 43 := by omega
        have wk : IntKind.i64.wrap (k : Int) = k := wrapIn _ (by omega)
        have HC' : Hid (∀ V, Below WS.heap.size WS V → V.cell? ⟨gR, k, none⟩ = some (.string (pS k))) := fun V b => HC.out V k b hk43
        clear HC
        generalize pS k = sp at *
        generalize pMb k = mb at *
        generalize pDb k = db at *
        generalize pR k = r at *
        generalize pL k = l at *
        generalize pG k = g at *
        generalize pI k = i at *
        generalize pH k = h at *
        generalize pC k = c at *
        go_wp2_with (first
          | (go_at_call 10; (with_reducible refine (hi _).mono ?_); rintro e v1 ⟨rfl, d1⟩
             have kb1 := box_below v1 (.cells #[.string sp, .bool mb, .bool db, .int .i64 r, .int .i64 l, .int .i64 g, .int .i64 i, .bool h, .bool c] 27)
             have d2 := btw d1 kb1 d1.size
             have n1 := allocNew v1 (.cells #[.string sp, .bool mb, .bool db, .int .i64 r, .int .i64 l, .int .i64 g, .int .i64 i, .bool h, .bool c] 27)
             clear hi)
          | (go_at_call 11; (with_reducible refine (hr _).mono ?_); rintro e v2 ⟨rfl, d3⟩
             have kb2 := box_below v2 (.cells #[.string sp, .bool mb, .bool db, .int .i64 r, .int .i64 l, .int .i64 g, .int .i64 i, .bool h, .bool c] 27)
             have d4 := btw d3 kb2 d3.size
             have n2 := allocNew v2 (.cells #[.string sp, .bool mb, .bool db, .int .i64 r, .int .i64 l, .int .i64 g, .int .i64 i, .bool h, .bool c] 27)
             have m1 := (d4.block v1.heap.size (by simp)).trans n1
             have d5 := btw d2 d4 d2.size
             obtain ⟨⟨e0, e1, e2, e3, e4, e5, e6, e7, e8⟩, _⟩ := bx9 m1
             obtain ⟨⟨f0, f1, f2, f3, f4, f5, f6, f7, f8⟩, _⟩ := bx9 n2
             clear hr)
          | (go_at_call 12; (with_reducible refine (hof _).mono ?_); rintro e v3 ⟨rfl, d6⟩
             have d7 := btw d5 d6 d5.size
             have m3 := (d6.block v1.heap.size (Array.getElem?_eq_some_iff.1 m1).1).trans m1
             have bv := btw bel d7 bel.size
             have sc := HC'.out _ bv
             clear e0 e1 e2 e3 e4 e5 e6 e7 e8 f0 f1 f2 f3 f4 f5 f6 f7 f8
             obtain ⟨⟨e0, e1, e2, e3, e4, e5, e6, e7, e8⟩, _⟩ := bx9 m3
             clear hof))
        go_quiet (fail)
        go_wp2
        go_roundw
        case rel => exact ⟨j + 1, by omega, by congr 1; omega, (btw bel d7 bel.size).trans (below_drewN (Below.refl _ _) _)⟩
        case measure => simp [intOf]; omega
    · obtain rfl : j = 46 := by omega
      have t1 : decide (((46 : Nat) : Int) - 1 ≤ 44) = false := by decide
      go_wp2
      go_ret
      exact ⟨rfl, bw⟩
end Go.Proofs.YtelcagfaflpolaaGreat
