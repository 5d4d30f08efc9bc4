
/- Package term: what is a primitive. -/

import Derived.Test.YtiahilelcppfgaaGreatPD

import Derived.Test.YtiahilelcppfgaaGreatTB

import Derived.Test.YtiahilelcppfgaaGreatBKa

import Derived.RangeFuncBox

import Derived.Maps.Views

namespace Go.Proofs.YtiahilelcppfgaaGreat

open Go.RowKit Go.Maps

set_option linter.unusedVariables false

/-- Is a text a primitive's? -/
def isPr (t : ByteArray) : Bool := has (spD 43) (.string t.data.toList)
theorem key_str (l : List UInt8) : WideAt.IsKeyLit (.string l) := by simp [WideAt.IsKeyLit]
theorem spD_map : ∀ k, IsMap (spD k)
  | 0 => by unfold spD; exact isMap_empty
  | k + 1 => by unfold spD; exact (spD_map k).put _ _
theorem spD_at (key : Lit) (hk : WideAt.IsKeyLit key) : ∀ k : Nat, ∃ n : Int, 0 ≤ n ∧ n ≤ (k : Nat) ∧ (spD k).atKey key (.lit (.int .i64 0)) = .lit (.int .i64 n)
  | 0 => ⟨0, by omega, by omega, rfl⟩
  | k + 1 => by
    obtain ⟨n, h1, h2, h3⟩ := spD_at key hk k
    by_cases e : key = .string (pS k).data.toList
    · refine ⟨(k : Int) + 1, by omega, by omega, ?_⟩
      subst e
      show ((spD k).put _ _).atKey _ _ = _
      rw [atKey_put_same (spD_map k) hk]
    · refine ⟨n, h1, by omega, ?_⟩
      show ((spD k).put _ _).atKey _ _ = _
      rw [atKey_put_other e]
      exact h3
/-- The primitives that were found: the box of the map, its block, how many at most. -/
structure Fm (w : World) (pm g n : Nat) : Prop where
  box : w.cell? ⟨pm, 0, none⟩ = some (.map (some g))
  ne : pm ≠ g
  few : n ≤ 1000000
  own : ∃ D : DataW Unit, w.ownsMap Tryz.prog 9 (plainElem Tryz.prog 3) g n D ∧ IsMap D ∧ ∀ l : List UInt8, has D (.string l) = true → has (spD 43) (.string l) = true
theorem Fm.lt {w : World} {pm g n : Nat} (h : Fm w pm g n) : g < w.heap.size := by
  obtain ⟨D, ho, _⟩ := h.own
  exact ho.lt
theorem Fm.below {B : Nat} {w V : World} {pm g n : Nat} (h : Fm w pm g n) (hb : Below B w V) (hB : w.heap.size ≤ B) : Fm V pm g n := by
  obtain ⟨D, ho, hm, hh⟩ := h.own
  exact ⟨(hb.cell (p := ⟨pm, 0, none⟩) (Nat.lt_of_lt_of_le (World.block_lt_of_cell? w _ h.box) hB)).trans h.box, h.ne, h.few, D, ownsMap_below ho hb (Nat.lt_of_lt_of_le ho.lt hB), hm, hh⟩
/-- What was written: the map alone. -/
abbrev Mw (g : Nat) (w V : World) : Prop := Chg (fun k => k = g) w V
theorem Mw.of_below {g B : Nat} {w V : World} (h : Below B w V) (hB : w.heap.size ≤ B) : Mw g w V := Chg.of_below h hB _
set_option maxHeartbeats 4000000 in
theorem isPrim_any (s : ByteArray) (hs : s.size ≤ 140737488355328) (pm g n : Nat) (w : World) (h : Fm w pm g n) (hn : n < 1000000) :
    Calls Tryz.prog 76 #[.string s, .pointer (some ⟨pm, 0, none⟩)] w fun e w' => e = .returned (.bool (isPr s)) ∧ Mw g w w' ∧ ∃ n', n' ≤ n + 1 ∧ Fm w' pm g n' := by
  have hsm : s.size ≤ maxLen := by unfold maxLen; omega
  have hkey : keyOf Tryz.prog 9 (.string s) = some (.string s.data.toList) := WideMaps.keyOf_string_mk Tryz.underlying9 hsm
  obtain ⟨D, ho, hm, hh⟩ := h.own
  obtain ⟨op, hop0, hop1, hop⟩ := spD_at (.string s.data.toList) (key_str _) 43
  have hof := fun W => of_any s hsm op (isPr s) hop rfl W
  have hH := h
  have hbx := h.box
  have hne := h.ne
  have HH : Hid (∀ l : List UInt8, has D (.string l) = true → has (spD 43) (.string l) = true) := hh
  have hP : Hid (isPr s = has (spD 43) (.string s.data.toList)) := rfl
  clear hop hh
  cases hD : has D (.string s.data.toList)
  · cases hB : isPr s
    · rw [hB] at hof
      clear hB
      go_enter Tryz.func76, Tryz.ntmps76
      go_wp2_with (first
        | (at_lookup; refine wpList_lookup_own_ok_int _ rfl _ _ 95 rfl 9 3 .i64 lawS Tryz.underlying95 Tryz.underlying3 (zeroI _) g n D rfl ho _ _ rfl hkey ?_
           intro c hat hwc
           rw [hD]
           clear hat hwc)
        | (go_at_call 77; (with_reducible refine (hof _).mono ?_); rintro e w1 ⟨rfl, b1⟩))
      go_ret
      exact ⟨rfl, Mw.of_below b1 (Nat.le_refl _), n, by omega, hH.below b1 (Nat.le_refl _)⟩
    · rw [hB] at hof
      have HB : Hid (isPr s = true) := hB
      clear hB
      go_enter Tryz.func76, Tryz.ntmps76
      go_wp2_with (first
        | (at_lookup; refine wpList_lookup_own_ok_int _ rfl _ _ 95 rfl 9 3 .i64 lawS Tryz.underlying95 Tryz.underlying3 (zeroI _) g n D rfl ho _ _ rfl hkey ?_
           intro c hat hwc
           rw [hD]
           clear hat hwc)
        | (go_at_call 77; (with_reducible refine (hof _).mono ?_); rintro e w1 ⟨rfl, b1⟩
           have o1 := ownsMap_below ho b1 ho.lt
           have x1 := (b1.cell (p := ⟨pm, 0, none⟩) (World.block_lt_of_cell? w _ hbx)).trans hbx)
        | (at_mapUpdate; refine wpList_mapUpdate_own _ rfl _ _ _ 95 rfl 9 3 lawS Tryz.underlying95 _ g n _ rfl o1 (by unfold maxLen; omega) _ _ _ rfl rfl hkey _ [] (plainElem_int Tryz.underlying3 (WalkArith.wf_i64 (by omega))) ?_
           intro w2 o2 gr2))
      go_ret
      refine ⟨rfl, (Mw.of_below b1 (Nat.le_refl _)).trans ((Chg.of_grown gr2).mono fun k _ e => by cases e; rfl), n + 1, by omega, ?_, hne, by omega, _, o2, hm.put _ _, ?_⟩
      · have lp := World.block_lt_of_cell? _ _ x1
        simp only [World.cell?] at x1 ⊢
        rw [gr2.block pm lp (fun e => by cases e; exact hne rfl)]
        exact x1
      · intro l hl
        by_cases e : (.string l : Lit) = .string s.data.toList
        · rw [e, ← hP.out, HB.out]
        · rw [has_put_other e] at hl
          exact HH.out l hl
  · have HB : Hid (isPr s = true) := by
      show _ = _
      rw [hP.out]; exact HH.out _ hD
    clear hof
    go_enter Tryz.func76, Tryz.ntmps76
    go_wp2_with (first
      | (at_lookup; refine wpList_lookup_own_ok_int _ rfl _ _ 95 rfl 9 3 .i64 lawS Tryz.underlying95 Tryz.underlying3 (zeroI _) g n D rfl ho _ _ rfl hkey ?_
         intro c hat hwc
         rw [hD]
         clear hat hwc))
    go_ret
    exact ⟨ret_bool HB.out.symm, Chg.refl _ _, n, by omega, hH⟩
end Go.Proofs.YtiahilelcppfgaaGreat
