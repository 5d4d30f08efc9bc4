
/- MoldRounds: what the law calls. -/

import Derived.Test.YtldhochafkcpiaaGreatMZ
import Derived.Deep.DeepCutAuto


namespace Go.Proofs.YtldhochafkcpiaaGreat

open Go.RowKit

set_option linter.unusedVariables false

theorem may6_yes (so ao : Option Addr) (sn sc an ac : Nat) (sh at' : List Int) (w : World) (hs : Rd w so sn sh) (ha : Rd w ao an at') (my : mayA sh at' = 0) :
    Calls Tryz.prog 7 #[.agg #[.slice so sn sc, .slice ao an ac]] w fun e w' => e = .returned (.bool true) ∧ Below w.heap.size w w' := by
  have hb := box_below w (.cells #[.slice so sn sc, .slice ao an ac] 25)
  have hz := size_any so sn sc sh _ (hs.below hb (Nat.le_refl _))
  obtain ⟨m1, m2⟩ := mayA_zero my
  rw [m1, sizeF_ok m1, ← m2, ha.len] at hz
  clear my m1 m2
  go_enter Tryz.func7, Tryz.ntmps7
  go_wp2_with (go_at_call 19; (with_reducible refine hz.mono ?_); rintro e w' ⟨rfl, hw⟩; rw [hw]; clear hw w')
  go_ret
  exact ⟨ret_bool (by simp), hb⟩
theorem may6_no (so ao : Option Addr) (sn sc an ac : Nat) (sh at' : List Int) (w : World) (hs : Rd w so sn sh) (ha : Rd w ao an at') (my : mayA sh at' ≠ 0) :
    Calls Tryz.prog 7 #[.agg #[.slice so sn sc, .slice ao an ac]] w fun e w' => e = .returned (.bool false) ∧ Below w.heap.size w w' := by
  have hb := box_below w (.cells #[.slice so sn sc, .slice ao an ac] 25)
  have hz := size_any so sn sc sh _ (hs.below hb (Nat.le_refl _))
  by_cases m1 : mayF sh = 0
  · have m2 : (pr sh == (an : Int)) = false := by
      simp only [beq_eq_false_iff_ne]
      intro e
      exact my (mayA_ok m1 (by rw [ha.len, e]))
    rw [m1, sizeF_ok m1] at hz
    clear my m1
    go_enter Tryz.func7, Tryz.ntmps7
    go_wp2_with (go_at_call 19; (with_reducible refine hz.mono ?_); rintro e w' ⟨rfl, hw⟩; rw [hw]; clear hw w')
    go_ret
    exact ⟨ret_bool (by simp), hb⟩
  · have m2 : (mayF sh == 0) = false := by simpa using m1
    clear my m1
    go_enter Tryz.func7, Tryz.ntmps7
    go_wp2_with (go_at_call 19; (with_reducible refine hz.mono ?_); rintro e w' ⟨rfl, hw⟩; rw [hw]; clear hw w')
    go_ret
    exact ⟨rfl, hb⟩

/-- An array in a box. -/
structure Bo (V : World) (g : Nat) (so : Option Addr) (sn sc : Nat) (ao : Option Addr) (an ac : Nat) (sh at' : List Int) : Prop where
  row : V.heap[g]? = some (.cells #[.slice so sn sc, .slice ao an ac] 25 (0, 0))
  s : Rd V so sn sh
  a : Rd V ao an at'
  ss : Sl so sn sc
  sa : Sl ao an ac
theorem Bo.lt {V : World} {g : Nat} {so : Option Addr} {sn sc : Nat} {ao : Option Addr} {an ac : Nat} {sh at' : List Int} (h : Bo V g so sn sc ao an ac sh at') : g < V.heap.size := (Array.getElem?_eq_some_iff.1 h.row).1
theorem Bo.below {V V' : World} {g : Nat} {so : Option Addr} {sn sc : Nat} {ao : Option Addr} {an ac : Nat} {sh at' : List Int} (h : Bo V g so sn sc ao an ac sh at') (k : Below V.heap.size V V') : Bo V' g so sn sc ao an ac sh at' :=
  ⟨(k.block g h.lt).trans h.row, h.s.below k (Nat.le_refl _), h.a.below k (Nat.le_refl _), h.ss, h.sa⟩
/-- Another box, made new, is written: its block holds no list. -/
theorem Bo.other {V : World} {g gb : Nat} {so : Option Addr} {sn sc : Nat} {ao : Option Addr} {an ac : Nat} {sh at' : List Int} (h : Bo V g so sn sc ao an ac sh at') (hne : g ≠ gb) {x y : Value} (hz : V.heap[gb]? = some (.cells #[.slice none 0 0, .slice none 0 0] 25 (0, 0))) : Bo ((V.setCell ⟨gb, 0, none⟩ x).setCell ⟨gb, 1, none⟩ y) g so sn sc ao an ac sh at' := by
  have hg := set2 V gb 0 1 x y
  have out : ∀ {o : Option Addr} {n : Nat} {zs : List Int}, Rd V o n zs → Rd ((V.setCell ⟨gb, 0, none⟩ x).setCell ⟨gb, 1, none⟩ y) o n zs := fun {o n zs} r => by
    refine ⟨r.len, r.room, r.num, fun h0 => ?_⟩
    obtain ⟨b, off, e, hl, hc⟩ := r.cells h0
    have hb : b ≠ gb := by
      rintro rfl
      have := hc 0 h0
      rw [cell_of_row V b _ _ _ (0, 0) hz] at this
      rcases Nat.lt_or_ge (off + 0) 2 with h2 | h2
      · rcases (by omega : off + 0 = 0 ∨ off + 0 = 1) with e | e <;> rw [e] at this <;> cases this
      · rw [Array.getElem?_eq_none (by simpa using h2)] at this; cases this
    exact ⟨b, off, e, Nat.lt_of_lt_of_le hl hg.size, fun k hk => hg.cell (hc k hk) (some_ne hb)⟩
  exact ⟨(hg.block g h.lt (some_ne hne)).trans h.row, out h.s, out h.a, h.ss, h.sa⟩
theorem bo_new {V : World} {B : Nat} {so : Option Addr} {sn sc : Nat} {ao : Option Addr} {an ac : Nat} {sh at' : List Int} (h1 : Ft 3 V B so sn sc sh) (h2 : Ft 2 V B ao an ac at') : Bo (V.alloc (.cells #[.slice so sn sc, .slice ao an ac] 25)) V.heap.size so sn sc ao an ac sh at' :=
  ⟨allocNew V _, h1.rd.below (box_below V _) (Nat.le_refl _), h2.rd.below (box_below V _) (Nat.le_refl _), h1.sl, h2.sl⟩
theorem bo_set {V : World} {B gb : Nat} {so : Option Addr} {sn sc : Nat} {ao : Option Addr} {an ac : Nat} {sh at' : List Int} (h1 : Ft 3 V B so sn sc sh) (h2 : Ft 2 V B ao an ac at') (hb : gb < B) (hz : V.heap[gb]? = some (.cells #[.slice none 0 0, .slice none 0 0] 25 (0, 0))) : Bo ((V.setCell ⟨gb, 0, none⟩ (.slice so sn sc)).setCell ⟨gb, 1, none⟩ (.slice ao an ac)) gb so sn sc ao an ac sh at' := by
  have a1 := heap_setCell_same V gb 0 _ 25 (.slice so sn sc) hz
  have a2 := heap_setCell_same _ gb 1 _ 25 (.slice ao an ac) a1
  exact ⟨by simpa using a2, (ft_set (w := V) h1 hb _ _).rd, (ft_set (w := V) h2 hb _ _).rd, h1.sl, h2.sl⟩
theorem Bo.all {V : World} {g : Nat} {so : Option Addr} {sn sc : Nat} {ao : Option Addr} {an ac : Nat} {sh at' : List Int} (h : Bo V g so sn sc ao an ac sh at') : V.cell? ⟨g, 0, none⟩ = some (.slice so sn sc) ∧ V.cell? ⟨g, 1, none⟩ = some (.slice ao an ac) := ⟨(box2 h.row).1, (box2 h.row).2.1⟩
end Go.Proofs.YtldhochafkcpiaaGreat
