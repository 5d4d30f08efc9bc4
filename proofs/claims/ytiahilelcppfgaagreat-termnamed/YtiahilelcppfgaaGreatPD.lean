
/- Package prim: spellings; Of. -/

import Derived.Test.YtiahilelcppfgaaGreatPB

import Derived.Maps.OwnSet

import Derived.Maps.OwnOps

import Derived.Deep.Cut

namespace Go.Proofs.YtiahilelcppfgaaGreat

open Go.RowKit Go.Maps

set_option linter.unusedVariables false

theorem lawS : Keyed Tryz.prog 9 := string_keyed Tryz.underlying9
theorem zeroI (w : World) : (zeroValue 3).run Tryz.prog w = .ok (.int .i64 0) w := by kernel_rfl
/-- The map of the first k spellings. -/
def spD : Nat → DataW Unit
  | 0 => .map []
  | k + 1 => (spD k).put (.string (pS k).data.toList) (.lit (.int .i64 ((k : Int) + 1)))
theorem pS_short (k : Nat) (h : k < 43) : (pS k).size ≤ 2 := by
  revert h; revert k; decide
theorem ownsMap_below {W V : World} {B b n : Nat} {D : DataW Unit} (h : W.ownsMap Tryz.prog 9 (plainElem Tryz.prog 3) b n D) (k : Below B W V) (hb : b < B) : V.ownsMap Tryz.prog 9 (plainElem Tryz.prog 3) b n D := by
  obtain ⟨es, clock, h1, h2⟩ := h
  exact ⟨es, clock, (k.block b hb).trans h1, h2⟩
theorem makeMap43 (w : World) : (Instr.makeMap 95 (some (.int .i64 43))).run Tryz.prog w = .ok (.map (some w.heap.size)) (w.alloc (.map #[] 0)) := by kernel_rfl
set_option maxRecDepth 100000 in
theorem index43 (F : Array Value) (hF : F = prFlat.toArray) (k : Nat) (hk : k < 43) (w : World) : (Instr.index 140 (.agg F) (.int .i64 (k : Nat))).run Tryz.prog w = .ok (.agg #[.int .i64 ((k : Int) + 1), .string (pS k), pM k, .int .i64 (pR k), pD k, .int .i64 (pL k), .int .i64 (pG k), .int .i64 (pI k), .bool (pH k), .bool (pC k)]) w := by
  subst hF
  match k, hk with
  | 0, _ => refine (?_ : _ = _); kernel_rfl
  | 1, _ => refine (?_ : _ = _); kernel_rfl
  | 2, _ => refine (?_ : _ = _); kernel_rfl
  | 3, _ => refine (?_ : _ = _); kernel_rfl
  | 4, _ => refine (?_ : _ = _); kernel_rfl
  | 5, _ => refine (?_ : _ = _); kernel_rfl
  | 6, _ => refine (?_ : _ = _); kernel_rfl
  | 7, _ => refine (?_ : _ = _); kernel_rfl
  | 8, _ => refine (?_ : _ = _); kernel_rfl
  | 9, _ => refine (?_ : _ = _); kernel_rfl
  | 10, _ => refine (?_ : _ = _); kernel_rfl
  | 11, _ => refine (?_ : _ = _); kernel_rfl
  | 12, _ => refine (?_ : _ = _); kernel_rfl
  | 13, _ => refine (?_ : _ = _); kernel_rfl
  | 14, _ => refine (?_ : _ = _); kernel_rfl
  | 15, _ => refine (?_ : _ = _); kernel_rfl
  | 16, _ => refine (?_ : _ = _); kernel_rfl
  | 17, _ => refine (?_ : _ = _); kernel_rfl
  | 18, _ => refine (?_ : _ = _); kernel_rfl
  | 19, _ => refine (?_ : _ = _); kernel_rfl
  | 20, _ => refine (?_ : _ = _); kernel_rfl
  | 21, _ => refine (?_ : _ = _); kernel_rfl
  | 22, _ => refine (?_ : _ = _); kernel_rfl
  | 23, _ => refine (?_ : _ = _); kernel_rfl
  | 24, _ => refine (?_ : _ = _); kernel_rfl
  | 25, _ => refine (?_ : _ = _); kernel_rfl
  | 26, _ => refine (?_ : _ = _); kernel_rfl
  | 27, _ => refine (?_ : _ = _); kernel_rfl
  | 28, _ => refine (?_ : _ = _); kernel_rfl
  | 29, _ => refine (?_ : _ = _); kernel_rfl
  | 30, _ => refine (?_ : _ = _); kernel_rfl
  | 31, _ => refine (?_ : _ = _); kernel_rfl
  | 32, _ => refine (?_ : _ = _); kernel_rfl
  | 33, _ => refine (?_ : _ = _); kernel_rfl
  | 34, _ => refine (?_ : _ = _); kernel_rfl
  | 35, _ => refine (?_ : _ = _); kernel_rfl
  | 36, _ => refine (?_ : _ = _); kernel_rfl
  | 37, _ => refine (?_ : _ = _); kernel_rfl
  | 38, _ => refine (?_ : _ = _); kernel_rfl
  | 39, _ => refine (?_ : _ = _); kernel_rfl
  | 40, _ => refine (?_ : _ = _); kernel_rfl
  | 41, _ => refine (?_ : _ = _); kernel_rfl
  | 42, _ => refine (?_ : _ = _); kernel_rfl
  | _ + 43, h => exact absurd h (by omega)

set_option maxHeartbeats 4000000 in
theorem spell_go (F : Array Value) (hF : ∀ W, Calls Tryz.prog 125 #[] W fun e w' => e = .returned (.agg F) ∧ Below W.heap.size W w')
    (pick : ∀ k : Nat, k < 43 → ∀ W : World, (Instr.index 140 (.agg F) (.int .i64 (k : Nat))).run Tryz.prog W = .ok (.agg #[.int .i64 ((k : Int) + 1), .string (pS k), pM k, .int .i64 (pR k), pD k, .int .i64 (pL k), .int .i64 (pG k), .int .i64 (pI k), .bool (pH k), .bool (pC k)]) W) (w : World) :
    Calls Tryz.prog 111 #[] w fun e w' => e = .returned (.map (some w.heap.size)) ∧ w'.ownsMap Tryz.prog 9 (plainElem Tryz.prog 3) w.heap.size 43 (spD 43) ∧ Below w.heap.size w w' := by
  have hmm := makeMap43
  have o0 : (w.alloc (.map #[] 0)).ownsMap Tryz.prog 9 (plainElem Tryz.prog 3) w.heap.size 0 (spD 0) := World.ownsMap_made w _ _ _
  have b0 := box_below w (.map #[] 0)
  go_enter Tryz.func111, Tryz.ntmps111
  go_wp2_with (first
    | (go_at_call 125; (with_reducible refine (hF _).mono ?_); rintro e w1 ⟨rfl, b1⟩
       have o1 := ownsMap_below o0 b1 (by simp)
       have b2 := btw b0 b1 b0.size
       clear o0 b0 hF))
  go_loopw [6] (fun i V => ∃ j : Nat, j ≤ 43 ∧ i = .int .i64 (j : Nat) ∧ V.ownsMap Tryz.prog 9 (plainElem Tryz.prog 3) w.heap.size j (spD j) ∧ Below w.heap.size w V) (fun i _ => 43 - (intOf i).toNat)
  case atStart => exact ⟨0, Nat.zero_le _, rfl, o1, b2⟩
  case round =>
    obtain ⟨j, hj, rfl, own, BV⟩ := hrel
    by_cases hlt : j < 43
    · have tj : decide ((j : Int) < 43) = true := by simp; omega
      have wj : IntKind.i64.wrap ((j : Int) + 1) = (j : Int) + 1 := wrapIn _ (by omega)
      have pk := pick j hlt
      have hkey : keyOf Tryz.prog 9 (.string (pS j)) = some (.string (pS j).data.toList) := WideMaps.keyOf_string_mk Tryz.underlying9 (by have := pS_short j hlt; unfold maxLen; omega)
      have kin := prKinds j hlt
      clear pick hmm
      have sd : Hid (spD (j + 1) = (spD j).put (.string (pS j).data.toList) (.lit (.int .i64 ((j : Int) + 1)))) := rfl
      generalize spD j = D0 at *
      generalize pS j = sp at *
      generalize pR j = r at *
      generalize pL j = l at *
      generalize pG j = g at *
      generalize pI j = i at *
      generalize pH j = h at *
      generalize pC j = c at *
      generalize pMb j = mb at *
      generalize pDb j = db at *
      rcases kin with ⟨e1, _, _, G, e2⟩ | ⟨e2, _, _, f, e1⟩ | ⟨_, _, f, G, e1, e2⟩
      · rw [e1, e2] at pk
        clear e1 e2
        have own2 := own.alloc (.cells #[.int .i64 ((j : Int) + 1), .string sp, .nilFunc, .int .i64 r, .func (.func G) #[] #[], .int .i64 l, .int .i64 g, .int .i64 i, .bool h, .bool c] 139)
        have b2 := btw BV (box_below wr (.cells #[.int .i64 ((j : Int) + 1), .string sp, .nilFunc, .int .i64 r, .func (.func G) #[] #[], .int .i64 l, .int .i64 g, .int .i64 i, .bool h, .bool c] 139)) BV.size
        have lt := own.lt
        go_wp2_with (first
          | (at_mapUpdate; refine wpList_mapUpdate_own _ rfl _ _ _ 95 rfl 9 3 lawS Tryz.underlying95 _ w.heap.size j _ rfl own2 (by unfold maxLen; omega) _ _ _ rfl rfl hkey _ [] (plainElem_int Tryz.underlying3 (WalkArith.wf_i64 (by omega))) ?_
             intro w1 own3 gr1))
        go_roundw
        case rel => exact ⟨j + 1, by omega, by go_num, sd.out ▸ own3, b2.grown gr1 b2.size (fun q hq => by cases hq; exact Nat.le_refl _)⟩
        case measure => simp [intOf]; omega
      · rw [e1, e2] at pk
        clear e1 e2
        have own2 := own.alloc (.cells #[.int .i64 ((j : Int) + 1), .string sp, .func (.func f) #[] #[], .int .i64 r, .nilFunc, .int .i64 l, .int .i64 g, .int .i64 i, .bool h, .bool c] 139)
        have b2 := btw BV (box_below wr (.cells #[.int .i64 ((j : Int) + 1), .string sp, .func (.func f) #[] #[], .int .i64 r, .nilFunc, .int .i64 l, .int .i64 g, .int .i64 i, .bool h, .bool c] 139)) BV.size
        have lt := own.lt
        go_wp2_with (first
          | (at_mapUpdate; refine wpList_mapUpdate_own _ rfl _ _ _ 95 rfl 9 3 lawS Tryz.underlying95 _ w.heap.size j _ rfl own2 (by unfold maxLen; omega) _ _ _ rfl rfl hkey _ [] (plainElem_int Tryz.underlying3 (WalkArith.wf_i64 (by omega))) ?_
             intro w1 own3 gr1))
        go_roundw
        case rel => exact ⟨j + 1, by omega, by go_num, sd.out ▸ own3, b2.grown gr1 b2.size (fun q hq => by cases hq; exact Nat.le_refl _)⟩
        case measure => simp [intOf]; omega
      · rw [e1, e2] at pk
        clear e1 e2
        have own2 := own.alloc (.cells #[.int .i64 ((j : Int) + 1), .string sp, .func (.func f) #[] #[], .int .i64 r, .func (.func G) #[] #[], .int .i64 l, .int .i64 g, .int .i64 i, .bool h, .bool c] 139)
        have b2 := btw BV (box_below wr (.cells #[.int .i64 ((j : Int) + 1), .string sp, .func (.func f) #[] #[], .int .i64 r, .func (.func G) #[] #[], .int .i64 l, .int .i64 g, .int .i64 i, .bool h, .bool c] 139)) BV.size
        have lt := own.lt
        go_wp2_with (first
          | (at_mapUpdate; refine wpList_mapUpdate_own _ rfl _ _ _ 95 rfl 9 3 lawS Tryz.underlying95 _ w.heap.size j _ rfl own2 (by unfold maxLen; omega) _ _ _ rfl rfl hkey _ [] (plainElem_int Tryz.underlying3 (WalkArith.wf_i64 (by omega))) ?_
             intro w1 own3 gr1))
        go_roundw
        case rel => exact ⟨j + 1, by omega, by go_num, sd.out ▸ own3, b2.grown gr1 b2.size (fun q hq => by cases hq; exact Nat.le_refl _)⟩
        case measure => simp [intOf]; omega
    · obtain rfl : j = 43 := by omega
      have tj : decide (((43 : Nat) : Int) < 43) = false := by decide
      go_wp2
      go_ret
      exact ⟨rfl, own, BV⟩
theorem spellings_any (w : World) : Calls Tryz.prog 111 #[] w fun e w' => e = .returned (.map (some w.heap.size)) ∧ w'.ownsMap Tryz.prog 9 (plainElem Tryz.prog 3) w.heap.size 43 (spD 43) ∧ Below w.heap.size w w' :=
  spell_go prFlat.toArray rowsP_any (fun k hk W => index43 _ rfl k hk W) w
/-- What Of answers. -/
theorem of_any (s : ByteArray) (hs : s.size ≤ maxLen) (n : Int) (b : Bool) (hn : (spD 43).atKey (.string s.data.toList) (.lit (.int .i64 0)) = .lit (.int .i64 n)) (hb : has (spD 43) (.string s.data.toList) = b) (w : World) :
    Calls Tryz.prog 77 #[.string s] w fun e w' => e = .returned (.tuple #[.int .i64 n, .bool b]) ∧ Below w.heap.size w w' := by
  have hkey : keyOf Tryz.prog 9 (.string s) = some (.string s.data.toList) := WideMaps.keyOf_string_mk Tryz.underlying9 hs
  have hsp := spellings_any
  generalize spD 43 = D at *
  go_enter Tryz.func77, Tryz.ntmps77
  go_wp2_with (first
    | (go_at_call 111; (with_reducible refine (hsp _).mono ?_); rintro e w1 ⟨rfl, own, b1⟩)
    | (at_lookup; refine wpList_lookup_own_ok_int _ rfl _ _ 95 rfl 9 3 .i64 lawS Tryz.underlying95 Tryz.underlying3 (zeroI _) w.heap.size 43 D rfl own _ _ rfl hkey ?_
       intro c hat hwc
       rw [hn] at hat
       cases hat
       rw [hb]))
  go_ret2
  exact ⟨rfl, b1⟩
end Go.Proofs.YtiahilelcppfgaaGreat
