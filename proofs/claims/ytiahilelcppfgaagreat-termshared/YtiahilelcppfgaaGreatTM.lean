
/- Package term: a node's text. -/

import Derived.Test.YtiahilelcppfgaaGreatPB

import Derived.Maps.OwnSet

import Derived.Maps.OwnOps

import Derived.Deep.Cut

import Derived.Test.YtiahilelcppfgaaGreatA4

import Derived.Maps.AppendAt

import Derived.Deep.DeepAppendRoom

import Derived.Laws.OwnMore

import Derived.Test.YtiahilelcppfgaaGreatTE

import Derived.RangeFuncBox

import Derived.Maps.Views

import Derived.Test.YtiahilelcppfgaaGreatTJ

namespace Go.Proofs.YtiahilelcppfgaaGreat

open Go.RowKit Go.Maps

set_option linter.unusedVariables false

theorem lawS : Keyed Tryz.prog 9 := string_keyed Tryz.underlying9
theorem zeroI (w : World) : (zeroValue 3).run Tryz.prog w = .ok (.int .i64 0) w := by kernel_rfl
/-- The map of the first k spellings. -/
def spD : Nat → DataW Unit
  | 0 => .map []
  | k + 1 => (spD k).put (.string (pS k).data.toList) (.lit (.int .i64 ((k : Int) + 1)))
theorem pS_short (k : Nat) (h : k < 43) : (pS k).size ≤ 2 := by
  revert h; revert k; decide
theorem ownsMap_below {W V : World} {B b n : Nat} {D : DataW Unit} (h : W.ownsMap Tryz.prog 9 (plainElem Tryz.prog 3) b n D) (k : Below B W V) (hb : b < B) : V.ownsMap Tryz.prog 9 (plainElem Tryz.prog 3) b n D := by
  obtain ⟨es, clock, h1, h2⟩ := h
  exact ⟨es, clock, (k.block b hb).trans h1, h2⟩
theorem makeMap43 (w : World) : (Instr.makeMap 95 (some (.int .i64 43))).run Tryz.prog w = .ok (.map (some w.heap.size)) (w.alloc (.map #[] 0)) := by kernel_rfl
set_option maxRecDepth 100000 in
theorem index43 (F : Array Value) (hF : F = prFlat.toArray) (k : Nat) (hk : k < 43) (w : World) : (Instr.index 140 (.agg F) (.int .i64 (k : Nat))).run Tryz.prog w = .ok (.agg #[.int .i64 ((k : Int) + 1), .string (pS k), pM k, .int .i64 (pR k), pD k, .int .i64 (pL k), .int .i64 (pG k), .int .i64 (pI k), .bool (pH k), .bool (pC k)]) w := by
  subst hF
  match k, hk with
  | 0, _ => refine (?_ : _ = _); kernel_rfl
  | 1, _ => refine (?_ : _ = _); kernel_rfl
  | 2, _ => refine (?_ : _ = _); kernel_rfl
  | 3, _ => refine (?_ : _ = _); kernel_rfl
  | 4, _ => refine (?_ : _ = _); kernel_rfl
  | 5, _ => refine (?_ : _ = _); kernel_rfl
  | 6, _ => refine (?_ : _ = _); kernel_rfl
  | 7, _ => refine (?_ : _ = _); kernel_rfl
  | 8, _ => refine (?_ : _ = _); kernel_rfl
  | 9, _ => refine (?_ : _ = _); kernel_rfl
  | 10, _ => refine (?_ : _ = _); kernel_rfl
  | 11, _ => refine (?_ : _ = _); kernel_rfl
  | 12, _ => refine (?_ : _ = _); kernel_rfl
  | 13, _ => refine (?_ : _ = _); kernel_rfl
  | 14, _ => refine (?_ : _ = _); kernel_rfl
  | 15, _ => refine (?_ : _ = _); kernel_rfl
  | 16, _ => refine (?_ : _ = _); kernel_rfl
  | 17, _ => refine (?_ : _ = _); kernel_rfl
  | 18, _ => refine (?_ : _ = _); kernel_rfl
  | 19, _ => refine (?_ : _ = _); kernel_rfl
  | 20, _ => refine (?_ : _ = _); kernel_rfl
  | 21, _ => refine (?_ : _ = _); kernel_rfl
  | 22, _ => refine (?_ : _ = _); kernel_rfl
  | 23, _ => refine (?_ : _ = _); kernel_rfl
  | 24, _ => refine (?_ : _ = _); kernel_rfl
  | 25, _ => refine (?_ : _ = _); kernel_rfl
  | 26, _ => refine (?_ : _ = _); kernel_rfl
  | 27, _ => refine (?_ : _ = _); kernel_rfl
  | 28, _ => refine (?_ : _ = _); kernel_rfl
  | 29, _ => refine (?_ : _ = _); kernel_rfl
  | 30, _ => refine (?_ : _ = _); kernel_rfl
  | 31, _ => refine (?_ : _ = _); kernel_rfl
  | 32, _ => refine (?_ : _ = _); kernel_rfl
  | 33, _ => refine (?_ : _ = _); kernel_rfl
  | 34, _ => refine (?_ : _ = _); kernel_rfl
  | 35, _ => refine (?_ : _ = _); kernel_rfl
  | 36, _ => refine (?_ : _ = _); kernel_rfl
  | 37, _ => refine (?_ : _ = _); kernel_rfl
  | 38, _ => refine (?_ : _ = _); kernel_rfl
  | 39, _ => refine (?_ : _ = _); kernel_rfl
  | 40, _ => refine (?_ : _ = _); kernel_rfl
  | 41, _ => refine (?_ : _ = _); kernel_rfl
  | 42, _ => refine (?_ : _ = _); kernel_rfl
  | _ + 43, h => exact absurd h (by omega)

set_option maxHeartbeats 4000000 in
theorem spell_go (F : Array Value) (hF : ∀ W, Calls Tryz.prog 125 #[] W fun e w' => e = .returned (.agg F) ∧ Below W.heap.size W w')
    (pick : ∀ k : Nat, k < 43 → ∀ W : World, (Instr.index 140 (.agg F) (.int .i64 (k : Nat))).run Tryz.prog W = .ok (.agg #[.int .i64 ((k : Int) + 1), .string (pS k), pM k, .int .i64 (pR k), pD k, .int .i64 (pL k), .int .i64 (pG k), .int .i64 (pI k), .bool (pH k), .bool (pC k)]) W) (w : World) :
    Calls Tryz.prog 111 #[] w fun e w' => e = .returned (.map (some w.heap.size)) ∧ w'.ownsMap Tryz.prog 9 (plainElem Tryz.prog 3) w.heap.size 43 (spD 43) ∧ Below w.heap.size w w' := by
  have hmm := makeMap43
  have o0 : (w.alloc (.map #[] 0)).ownsMap Tryz.prog 9 (plainElem Tryz.prog 3) w.heap.size 0 (spD 0) := World.ownsMap_made w _ _ _
  have b0 := box_below w (.map #[] 0)
  go_enter Tryz.func111, Tryz.ntmps111
  go_wp2_with (first
    | (go_at_call 125; (with_reducible refine (hF _).mono ?_); rintro e w1 ⟨rfl, b1⟩
       have o1 := ownsMap_below o0 b1 (by simp)
       have b2 := btw b0 b1 b0.size
       clear o0 b0 hF))
  go_loopw [6] (fun i V => ∃ j : Nat, j ≤ 43 ∧ i = .int .i64 (j : Nat) ∧ V.ownsMap Tryz.prog 9 (plainElem Tryz.prog 3) w.heap.size j (spD j) ∧ Below w.heap.size w V) (fun i _ => 43 - (intOf i).toNat)
  case atStart => exact ⟨0, Nat.zero_le _, rfl, o1, b2⟩
  case round =>
    obtain ⟨j, hj, rfl, own, BV⟩ := hrel
    by_cases hlt : j < 43
    · have tj : decide ((j : Int) < 43) = true := by simp; omega
      have wj : IntKind.i64.wrap ((j : Int) + 1) = (j : Int) + 1 := wrapIn _ (by omega)
      have pk := pick j hlt
      have hkey : keyOf Tryz.prog 9 (.string (pS j)) = some (.string (pS j).data.toList) := WideMaps.keyOf_string_mk Tryz.underlying9 (by have := pS_short j hlt; unfold maxLen; omega)
      have kin := prKinds j hlt
      clear pick hmm
      have sd : Hid (spD (j + 1) = (spD j).put (.string (pS j).data.toList) (.lit (.int .i64 ((j : Int) + 1)))) := rfl
      generalize spD j = D0 at *
      generalize pS j = sp at *
      generalize pR j = r at *
      generalize pL j = l at *
      generalize pG j = g at *
      generalize pI j = i at *
      generalize pH j = h at *
      generalize pC j = c at *
      generalize pMb j = mb at *
      generalize pDb j = db at *
      rcases kin with ⟨e1, _, _, G, e2⟩ | ⟨e2, _, _, f, e1⟩ | ⟨_, _, f, G, e1, e2⟩
      · rw [e1, e2] at pk
        clear e1 e2
        have own2 := own.alloc (.cells #[.int .i64 ((j : Int) + 1), .string sp, .nilFunc, .int .i64 r, .func (.func G) #[] #[], .int .i64 l, .int .i64 g, .int .i64 i, .bool h, .bool c] 139)
        have b2 := btw BV (box_below wr (.cells #[.int .i64 ((j : Int) + 1), .string sp, .nilFunc, .int .i64 r, .func (.func G) #[] #[], .int .i64 l, .int .i64 g, .int .i64 i, .bool h, .bool c] 139)) BV.size
        have lt := own.lt
        go_wp2_with (first
          | (at_mapUpdate; refine wpList_mapUpdate_own _ rfl _ _ _ 95 rfl 9 3 lawS Tryz.underlying95 _ w.heap.size j _ rfl own2 (by unfold maxLen; omega) _ _ _ rfl rfl hkey _ [] (plainElem_int Tryz.underlying3 (WalkArith.wf_i64 (by omega))) ?_
             intro w1 own3 gr1))
        go_roundw
        case rel => exact ⟨j + 1, by omega, by go_num, sd.out ▸ own3, b2.grown gr1 b2.size (fun q hq => by cases hq; exact Nat.le_refl _)⟩
        case measure => simp [intOf]; omega
      · rw [e1, e2] at pk
        clear e1 e2
        have own2 := own.alloc (.cells #[.int .i64 ((j : Int) + 1), .string sp, .func (.func f) #[] #[], .int .i64 r, .nilFunc, .int .i64 l, .int .i64 g, .int .i64 i, .bool h, .bool c] 139)
        have b2 := btw BV (box_below wr (.cells #[.int .i64 ((j : Int) + 1), .string sp, .func (.func f) #[] #[], .int .i64 r, .nilFunc, .int .i64 l, .int .i64 g, .int .i64 i, .bool h, .bool c] 139)) BV.size
        have lt := own.lt
        go_wp2_with (first
          | (at_mapUpdate; refine wpList_mapUpdate_own _ rfl _ _ _ 95 rfl 9 3 lawS Tryz.underlying95 _ w.heap.size j _ rfl own2 (by unfold maxLen; omega) _ _ _ rfl rfl hkey _ [] (plainElem_int Tryz.underlying3 (WalkArith.wf_i64 (by omega))) ?_
             intro w1 own3 gr1))
        go_roundw
        case rel => exact ⟨j + 1, by omega, by go_num, sd.out ▸ own3, b2.grown gr1 b2.size (fun q hq => by cases hq; exact Nat.le_refl _)⟩
        case measure => simp [intOf]; omega
      · rw [e1, e2] at pk
        clear e1 e2
        have own2 := own.alloc (.cells #[.int .i64 ((j : Int) + 1), .string sp, .func (.func f) #[] #[], .int .i64 r, .func (.func G) #[] #[], .int .i64 l, .int .i64 g, .int .i64 i, .bool h, .bool c] 139)
        have b2 := btw BV (box_below wr (.cells #[.int .i64 ((j : Int) + 1), .string sp, .func (.func f) #[] #[], .int .i64 r, .func (.func G) #[] #[], .int .i64 l, .int .i64 g, .int .i64 i, .bool h, .bool c] 139)) BV.size
        have lt := own.lt
        go_wp2_with (first
          | (at_mapUpdate; refine wpList_mapUpdate_own _ rfl _ _ _ 95 rfl 9 3 lawS Tryz.underlying95 _ w.heap.size j _ rfl own2 (by unfold maxLen; omega) _ _ _ rfl rfl hkey _ [] (plainElem_int Tryz.underlying3 (WalkArith.wf_i64 (by omega))) ?_
             intro w1 own3 gr1))
        go_roundw
        case rel => exact ⟨j + 1, by omega, by go_num, sd.out ▸ own3, b2.grown gr1 b2.size (fun q hq => by cases hq; exact Nat.le_refl _)⟩
        case measure => simp [intOf]; omega
    · obtain rfl : j = 43 := by omega
      have tj : decide (((43 : Nat) : Int) < 43) = false := by decide
      go_wp2
      go_ret
      exact ⟨rfl, own, BV⟩
theorem spellings_any (w : World) : Calls Tryz.prog 111 #[] w fun e w' => e = .returned (.map (some w.heap.size)) ∧ w'.ownsMap Tryz.prog 9 (plainElem Tryz.prog 3) w.heap.size 43 (spD 43) ∧ Below w.heap.size w w' :=
  spell_go prFlat.toArray rowsP_any (fun k hk W => index43 _ rfl k hk W) w
/-- What Of answers. -/
theorem of_any (s : ByteArray) (hs : s.size ≤ maxLen) (n : Int) (b : Bool) (hn : (spD 43).atKey (.string s.data.toList) (.lit (.int .i64 0)) = .lit (.int .i64 n)) (hb : has (spD 43) (.string s.data.toList) = b) (w : World) :
    Calls Tryz.prog 77 #[.string s] w fun e w' => e = .returned (.tuple #[.int .i64 n, .bool b]) ∧ Below w.heap.size w w' := by
  have hkey : keyOf Tryz.prog 9 (.string s) = some (.string s.data.toList) := WideMaps.keyOf_string_mk Tryz.underlying9 hs
  have hsp := spellings_any
  generalize spD 43 = D at *
  go_enter Tryz.func77, Tryz.ntmps77
  go_wp2_with (first
    | (go_at_call 111; (with_reducible refine (hsp _).mono ?_); rintro e w1 ⟨rfl, own, b1⟩)
    | (at_lookup; refine wpList_lookup_own_ok_int _ rfl _ _ 95 rfl 9 3 .i64 lawS Tryz.underlying95 Tryz.underlying3 (zeroI _) w.heap.size 43 D rfl own _ _ rfl hkey ?_
       intro c hat hwc
       rw [hn] at hat
       cases hat
       rw [hb]))
  go_ret2
  exact ⟨rfl, b1⟩
end Go.Proofs.YtiahilelcppfgaaGreat

namespace Go.Proofs.YtiahilelcppfgaaGreat

open Go.RowKit

set_option linter.unusedVariables false

/-- Of what was there only blocks that S tells have been written. -/
structure Chg (S : Nat → Prop) (W W' : World) : Prop where
  os : W'.os = W.os
  tape : W'.tape = W.tape
  output : W'.output = W.output
  size : W.heap.size ≤ W'.heap.size
  block : ∀ k, k < W.heap.size → ¬ S k → W'.heap[k]? = W.heap[k]?
theorem Chg.refl (S : Nat → Prop) (W : World) : Chg S W W := ⟨rfl, rfl, rfl, Nat.le_refl _, fun _ _ _ => rfl⟩
theorem Chg.trans {S : Nat → Prop} {W W' W'' : World} (h : Chg S W W') (k : Chg S W' W'') : Chg S W W'' :=
  ⟨k.os.trans h.os, k.tape.trans h.tape, k.output.trans h.output, Nat.le_trans h.size k.size, fun j hj hs => (k.block j (Nat.lt_of_lt_of_le hj h.size) hs).trans (h.block j hj hs)⟩
theorem Chg.mono {S S' : Nat → Prop} {W W' : World} (h : Chg S W W') (hs : ∀ k, k < W.heap.size → S k → S' k) : Chg S' W W' :=
  ⟨h.os, h.tape, h.output, h.size, fun j hj hn => h.block j hj fun hS => hn (hs j hj hS)⟩
theorem Chg.of_grown {W W' : World} {row : Option Nat} (h : W.grownBy W' row) : Chg (fun k => row = some k) W W' :=
  ⟨h.os, h.tape, h.output, h.size, fun j hj hn => h.block j hj fun e => hn e.symm⟩
theorem Chg.of_below {B : Nat} {W W' : World} (h : Below B W W') (hB : W.heap.size ≤ B) (S : Nat → Prop) : Chg S W W' :=
  ⟨h.os, h.tape, h.output, h.size, fun j hj _ => h.block j (Nat.lt_of_lt_of_le hj hB)⟩
theorem Chg.below {S : Nat → Prop} {B : Nat} {w W W' : World} (h : Chg S W W') (hb : Below B w W) (hS : ∀ k, S k → B ≤ k) (hB : B ≤ w.heap.size) : Below B w W' :=
  ⟨h.os.trans hb.os, h.tape.trans hb.tape, h.output.trans hb.output, Nat.le_trans hb.size h.size, fun j hj => (h.block j (Nat.lt_of_lt_of_le (Nat.lt_of_lt_of_le hj hB) hb.size) fun hs => absurd (hS j hs) (by omega)).trans (hb.block j hj)⟩
theorem Chg.own {S : Nat → Prop} {W W' : World} {B e s n : Nat} {v : Value} {xs : List Value} (k : Chg S W W') (h : W.ownsRow B e s v n xs) (hS : ∀ g, v.ownBlock = some g → ¬ S g) : W'.ownsRow B e s v n xs := by
  refine ⟨h.1, ?_⟩
  rcases h.2 with h0 | ⟨g, c, cur, rfl, hB, hg, r⟩
  · exact .inl h0
  · exact .inr ⟨g, c, cur, rfl, hB, by rw [k.block g (Array.getElem?_eq_some_iff.1 hg).1 (hS g rfl)]; exact hg, r⟩
theorem Chg.at {S : Nat → Prop} {W W' : World} {g : Nat} {o : Obj} (k : Chg S W W') (h : W.heap[g]? = some o) (hS : ¬ S g) : W'.heap[g]? = some o := by
  rw [k.block g (Array.getElem?_eq_some_iff.1 h).1 hS]; exact h
end Go.Proofs.YtiahilelcppfgaaGreat

namespace Go.Proofs.YtiahilelcppfgaaGreat

open Go.RowKit Go.Maps

set_option linter.unusedVariables false

/-- Is a text a primitive's? -/
def isPr (t : ByteArray) : Bool := has (spD 43) (.string t.data.toList)
theorem key_str (l : List UInt8) : WideAt.IsKeyLit (.string l) := by simp [WideAt.IsKeyLit]
theorem spD_map : ∀ k, IsMap (spD k)
  | 0 => by unfold spD; exact isMap_empty
  | k + 1 => by unfold spD; exact (spD_map k).put _ _
theorem spD_at (key : Lit) (hk : WideAt.IsKeyLit key) : ∀ k : Nat, ∃ n : Int, 0 ≤ n ∧ n ≤ (k : Nat) ∧ (spD k).atKey key (.lit (.int .i64 0)) = .lit (.int .i64 n)
  | 0 => ⟨0, by omega, by omega, rfl⟩
  | k + 1 => by
    obtain ⟨n, h1, h2, h3⟩ := spD_at key hk k
    by_cases e : key = .string (pS k).data.toList
    · refine ⟨(k : Int) + 1, by omega, by omega, ?_⟩
      subst e
      show ((spD k).put _ _).atKey _ _ = _
      rw [atKey_put_same (spD_map k) hk]
    · refine ⟨n, h1, by omega, ?_⟩
      show ((spD k).put _ _).atKey _ _ = _
      rw [atKey_put_other e]
      exact h3
/-- The primitives that were found: the box of the map, its block, how many at most. -/
structure Fm (w : World) (pm g n : Nat) : Prop where
  box : w.cell? ⟨pm, 0, none⟩ = some (.map (some g))
  ne : pm ≠ g
  few : n ≤ 1000000
  own : ∃ D : DataW Unit, w.ownsMap Tryz.prog 9 (plainElem Tryz.prog 3) g n D ∧ IsMap D ∧ ∀ l : List UInt8, has D (.string l) = true → has (spD 43) (.string l) = true
theorem Fm.lt {w : World} {pm g n : Nat} (h : Fm w pm g n) : g < w.heap.size := by
  obtain ⟨D, ho, _⟩ := h.own
  exact ho.lt
theorem Fm.below {B : Nat} {w V : World} {pm g n : Nat} (h : Fm w pm g n) (hb : Below B w V) (hB : w.heap.size ≤ B) : Fm V pm g n := by
  obtain ⟨D, ho, hm, hh⟩ := h.own
  exact ⟨(hb.cell (p := ⟨pm, 0, none⟩) (Nat.lt_of_lt_of_le (World.block_lt_of_cell? w _ h.box) hB)).trans h.box, h.ne, h.few, D, ownsMap_below ho hb (Nat.lt_of_lt_of_le ho.lt hB), hm, hh⟩
/-- What was written: the map alone. -/
abbrev Mw (g : Nat) (w V : World) : Prop := Chg (fun k => k = g) w V
theorem Mw.of_below {g B : Nat} {w V : World} (h : Below B w V) (hB : w.heap.size ≤ B) : Mw g w V := Chg.of_below h hB _
set_option maxHeartbeats 4000000 in
theorem isPrim_any (s : ByteArray) (hs : s.size ≤ 140737488355328) (pm g n : Nat) (w : World) (h : Fm w pm g n) (hn : n < 1000000) :
    Calls Tryz.prog 76 #[.string s, .pointer (some ⟨pm, 0, none⟩)] w fun e w' => e = .returned (.bool (isPr s)) ∧ Mw g w w' ∧ ∃ n', n' ≤ n + 1 ∧ Fm w' pm g n' := by
  have hsm : s.size ≤ maxLen := by unfold maxLen; omega
  have hkey : keyOf Tryz.prog 9 (.string s) = some (.string s.data.toList) := WideMaps.keyOf_string_mk Tryz.underlying9 hsm
  obtain ⟨D, ho, hm, hh⟩ := h.own
  obtain ⟨op, hop0, hop1, hop⟩ := spD_at (.string s.data.toList) (key_str _) 43
  have hof := fun W => of_any s hsm op (isPr s) hop rfl W
  have hH := h
  have hbx := h.box
  have hne := h.ne
  have HH : Hid (∀ l : List UInt8, has D (.string l) = true → has (spD 43) (.string l) = true) := hh
  have hP : Hid (isPr s = has (spD 43) (.string s.data.toList)) := rfl
  clear hop hh
  cases hD : has D (.string s.data.toList)
  · cases hB : isPr s
    · rw [hB] at hof
      clear hB
      go_enter Tryz.func76, Tryz.ntmps76
      go_wp2_with (first
        | (at_lookup; refine wpList_lookup_own_ok_int _ rfl _ _ 95 rfl 9 3 .i64 lawS Tryz.underlying95 Tryz.underlying3 (zeroI _) g n D rfl ho _ _ rfl hkey ?_
           intro c hat hwc
           rw [hD]
           clear hat hwc)
        | (go_at_call 77; (with_reducible refine (hof _).mono ?_); rintro e w1 ⟨rfl, b1⟩))
      go_ret
      exact ⟨rfl, Mw.of_below b1 (Nat.le_refl _), n, by omega, hH.below b1 (Nat.le_refl _)⟩
    · rw [hB] at hof
      have HB : Hid (isPr s = true) := hB
      clear hB
      go_enter Tryz.func76, Tryz.ntmps76
      go_wp2_with (first
        | (at_lookup; refine wpList_lookup_own_ok_int _ rfl _ _ 95 rfl 9 3 .i64 lawS Tryz.underlying95 Tryz.underlying3 (zeroI _) g n D rfl ho _ _ rfl hkey ?_
           intro c hat hwc
           rw [hD]
           clear hat hwc)
        | (go_at_call 77; (with_reducible refine (hof _).mono ?_); rintro e w1 ⟨rfl, b1⟩
           have o1 := ownsMap_below ho b1 ho.lt
           have x1 := (b1.cell (p := ⟨pm, 0, none⟩) (World.block_lt_of_cell? w _ hbx)).trans hbx)
        | (at_mapUpdate; refine wpList_mapUpdate_own _ rfl _ _ _ 95 rfl 9 3 lawS Tryz.underlying95 _ g n _ rfl o1 (by unfold maxLen; omega) _ _ _ rfl rfl hkey _ [] (plainElem_int Tryz.underlying3 (WalkArith.wf_i64 (by omega))) ?_
           intro w2 o2 gr2))
      go_ret
      refine ⟨rfl, (Mw.of_below b1 (Nat.le_refl _)).trans ((Chg.of_grown gr2).mono fun k _ e => by cases e; rfl), n + 1, by omega, ?_, hne, by omega, _, o2, hm.put _ _, ?_⟩
      · have lp := World.block_lt_of_cell? _ _ x1
        simp only [World.cell?] at x1 ⊢
        rw [gr2.block pm lp (fun e => by cases e; exact hne rfl)]
        exact x1
      · intro l hl
        by_cases e : (.string l : Lit) = .string s.data.toList
        · rw [e, ← hP.out, HB.out]
        · rw [has_put_other e] at hl
          exact HH.out l hl
  · have HB : Hid (isPr s = true) := by
      show _ = _
      rw [hP.out]; exact HH.out _ hD
    clear hof
    go_enter Tryz.func76, Tryz.ntmps76
    go_wp2_with (first
      | (at_lookup; refine wpList_lookup_own_ok_int _ rfl _ _ 95 rfl 9 3 .i64 lawS Tryz.underlying95 Tryz.underlying3 (zeroI _) g n D rfl ho _ _ rfl hkey ?_
         intro c hat hwc
         rw [hD]
         clear hat hwc))
    go_ret
    exact ⟨ret_bool HB.out.symm, Chg.refl _ _, n, by omega, hH⟩
end Go.Proofs.YtiahilelcppfgaaGreat

namespace Go.Proofs.YtiahilelcppfgaaGreat

open Go.RowKit Go.Maps

set_option linter.unusedVariables false

def txB (k : Int) (t : ByteArray) : Bool :=
  if k = 2 ∨ k = 11 then nmB 97 t else if k = 21 then nmB 65 t else if k = 20 then isPr t else (t.toList == ([] : List UInt8))
def cloP (pm : Nat) : Value := .func (.func 76) #[] #[.pointer (some ⟨pm, 0, none⟩)]
set_option maxHeartbeats 4000000 in
theorem textFits_any (k n : Int) (t : ByteArray) (so ao ko : Option Addr) (sn sc an ac kn kc : Nat) (pm g m : Nat) (w : World) (ht : t.size ≤ 140737488355328) (h : Fm w pm g m) (hm : m < 1000000) :
    Calls Tryz.prog 56 #[.agg #[.int .i64 k, .string t, .int .i64 n, .slice so sn sc, .slice ao an ac, .slice ko kn kc], cloP pm] w fun e w' => e = .returned (.bool (txB k t)) ∧ Mw g w w' ∧ ∃ m', m' ≤ m + 1 ∧ Fm w' pm g m' := by
  have k0 := box_below w (.cells #[.int .i64 k, .string t, .int .i64 n, .slice so sn sc, .slice ao an ac, .slice ko kn kc] 31)
  obtain ⟨b0, b1, b2, b3, b4, b5⟩ := box6 (allocNew w (.cells #[.int .i64 k, .string t, .int .i64 n, .slice so sn sc, .slice ao an ac, .slice ko kn kc] 31))
  have h0 := h.below k0 (Nat.le_refl _)
  have hF := h
  have hA : txB k t = if k = 2 ∨ k = 11 then nmB 97 t else if k = 21 then nmB 65 t else if k = 20 then isPr t else (t.toList == ([] : List UInt8)) := rfl
  unfold cloP
  have hs := fun W => isName97_any t W ht
  have hc := fun W => isName65_any t W ht
  have hp := isPrim_any t ht pm g m _ h0 hm
  generalize nmB 97 t = S at *
  generalize nmB 65 t = K at *
  generalize isPr t = Q at *
  clear h
  by_cases g2 : k = 2
  · have e2 : (k == 2) = true := by simp [g2]
    rw [hA, if_pos (by simp [g2])]
    clear hA g2
    go_enter Tryz.func56, Tryz.ntmps56
    go_wp2_with (go_at_call 78; (with_reducible refine (hs _).mono ?_); rintro e w1 ⟨rfl, hw⟩; rw [hw]; clear hw w1)
    go_ret
    exact ⟨rfl, Mw.of_below k0 (Nat.le_refl _), m, by omega, hF.below k0 (Nat.le_refl _)⟩
  have e2 : (k == 2) = false := by simp [g2]
  by_cases g11 : k = 11
  · have e11 : (k == 11) = true := by simp [g11]
    rw [hA, if_pos (by simp [g11])]
    clear hA g11
    go_enter Tryz.func56, Tryz.ntmps56
    go_wp2_with (go_at_call 78; (with_reducible refine (hs _).mono ?_); rintro e w1 ⟨rfl, hw⟩; rw [hw]; clear hw w1)
    go_ret
    exact ⟨rfl, Mw.of_below k0 (Nat.le_refl _), m, by omega, hF.below k0 (Nat.le_refl _)⟩
  have e11 : (k == 11) = false := by simp [g11]
  rw [if_neg (by simp [g2, g11])] at hA
  by_cases g21 : k = 21
  · have e21 : (k == 21) = true := by simp [g21]
    rw [hA, if_pos g21]
    clear hA g21
    go_enter Tryz.func56, Tryz.ntmps56
    go_wp2_with (go_at_call 78; (with_reducible refine (hc _).mono ?_); rintro e w1 ⟨rfl, hw⟩; rw [hw]; clear hw w1)
    go_ret
    exact ⟨rfl, Mw.of_below k0 (Nat.le_refl _), m, by omega, hF.below k0 (Nat.le_refl _)⟩
  have e21 : (k == 21) = false := by simp [g21]
  rw [if_neg g21] at hA
  by_cases g20 : k = 20
  · have e20 : (k == 20) = true := by simp [g20]
    rw [hA, if_pos g20]
    clear hA g20
    go_enter Tryz.func56, Tryz.ntmps56
    go_wp2_with (go_at_call 76; (with_reducible refine hp.mono ?_); rintro e w1 ⟨rfl, m1, x1⟩)
    go_ret
    exact ⟨rfl, (Mw.of_below k0 (Nat.le_refl _)).trans m1, x1⟩
  have e20 : (k == 20) = false := by simp [g20]
  rw [if_neg g20] at hA
  rw [hA]
  clear hA g2 g11 g20 g21
  cases he : t.toList == ([] : List UInt8)
  · go_enter Tryz.func56, Tryz.ntmps56
    go_wp2
    go_ret
    exact ⟨rfl, Mw.of_below k0 (Nat.le_refl _), m, by omega, hF.below k0 (Nat.le_refl _)⟩
  · go_enter Tryz.func56, Tryz.ntmps56
    go_wp2
    go_ret
    exact ⟨rfl, Mw.of_below k0 (Nat.le_refl _), m, by omega, hF.below k0 (Nat.le_refl _)⟩
end Go.Proofs.YtiahilelcppfgaaGreat
