
/- Rows that are made and filled, boxes of arrays, and what package digit asks of package num. -/

import Derived.Test.YtelcagfaflpolaaGreatA11
import Derived.Test.YtelcagfaflpolaaGreatC8
import Derived.Test.YtelcagfaflpolaaGreatNDivs
import Derived.Lib.JoinLaws
import Derived.Deep.RegionHeld3
import Derived.RegionTactic






namespace Go.Proofs.YtelcagfaflpolaaGreat

open Go.RowKit

set_option linter.unusedVariables false

theorem wrZ {z : Int} (h1 : -9223372036854775808 ≤ z) (h2 : z ≤ 9223372036854775807) : IntKind.i64.wrap z = z := wrapIn _ (by omega)
theorem nth_setL {zs : List Int} {j k : Nat} {u : Int} (hj : j < zs.length) : nth (zs.set j u) k = if k = j then u else nth zs k := by
  unfold nth
  by_cases h : k = j
  · subst h; simp [hj]
  · rw [if_neg h, List.getD_eq_getElem?_getD, List.getD_eq_getElem?_getD, List.getElem?_set_ne (fun e => h e.symm)]
theorem Ft.setT {e : TypeId} {w : World} {B g : Nat} {n cap : Nat} {zs : List Int} (h : Ft e w B (some ⟨g, 0, none⟩) n cap zs) (j : Nat) (hj : j < n) (u : Int) (h1 : -9223372036854775808 ≤ u) (h2 : u ≤ 9223372036854775807) :
    Ft e (w.setCell ⟨g, j, none⟩ (.int .i64 u)) B (some ⟨g, 0, none⟩) n cap (zs.set j u) := by
  have hl := h.rd.len
  have hs := (h.own.stored j (.int .i64 u)).1
  rw [show (zs.map (Value.int .i64)).set j (.int .i64 u) = (zs.set j u).map (Value.int .i64) by rw [List.map_set]] at hs
  obtain ⟨ao, c, e, hf⟩ := Ft.mk' (zs := zs.set j u) (by rw [List.length_set]; exact hl) h.rd.room (fun k hk => by
    rw [nth_setL (by omega)]
    split
    · exact ⟨h1, h2⟩
    · exact h.rd.num k hk) hs
  cases e
  exact hf
theorem made_ftT (e : TypeId) (w : World) (n : Nat) (hr : n * 8 ≤ 140737488351232) : Ft e (w.alloc (.cells (madeCells #[.int .i64 0] n) e)) w.heap.size (some ⟨w.heap.size, 0, none⟩) n n (List.replicate n 0) := by
  have hown : (w.alloc (.cells (madeCells #[.int .i64 0] n) e)).ownsRow w.heap.size e 1 (.slice (some ⟨w.heap.size, 0, none⟩) n n) n ((List.replicate n 0).map (Value.int .i64)) := by
    refine ⟨by simp, .inr ⟨w.heap.size, n, madeCells #[.int .i64 0] n, rfl, by omega, allocNew _ _, Nat.le_refl _, by unfold maxLen; omega, by simp [madeCells], ?_⟩⟩
    rw [Nat.mul_one]
    apply List.ext_getElem
    · simp [madeCells]
    · intro i h1 h2; simp [madeCells, Nat.mod_one]
  obtain ⟨a, c, e, hf⟩ := Ft.mk' (zs := List.replicate n 0) (by simp) hr (fun k hk => by simp [nth, hk]) hown
  cases e
  exact hf
theorem room_ftT (e : TypeId) (w : World) (n : Nat) (hr : n * 8 ≤ 140737488351232) : Ft e (w.alloc (.cells (madeCells #[.int .i64 0] n) e)) w.heap.size (some ⟨w.heap.size, 0, none⟩) 0 n [] := by
  obtain ⟨cur, hcur⟩ := arr_list (madeCells #[.int .i64 0] n)
  have hl := size_madeCells #[.int .i64 0] n
  have hn := allocNew w (.cells (madeCells #[.int .i64 0] n) e)
  rw [hcur] at hl hn ⊢
  exact Ft.row hn (Nat.le_refl _) rfl (by omega) (fun k hk => by omega) (Nat.zero_le _) (by unfold maxLen; omega) (by simpa using hl) rfl
/-- One array in its box, and a box for the answer. -/
structure UnZ (w W : World) (so : Option Addr) (sn sc : Nat) (ao : Option Addr) (an ac : Nat) : Prop where
  x : W.heap[w.heap.size]? = some (.cells #[.slice so sn sc, .slice ao an ac] 36 (0, 0))
  r : W.heap[w.heap.size + 1]? = some (.cells #[.slice none 0 0, .slice none 0 0] 36 (0, 0))
  bel : Below w.heap.size w W
theorem UnZ.sz {w W : World} {so : Option Addr} {sn sc : Nat} {ao : Option Addr} {an ac : Nat} (h : UnZ w W so sn sc ao an ac) : w.heap.size + 2 ≤ W.heap.size := by
  have := (Array.getElem?_eq_some_iff.1 h.r).1
  omega
theorem UnZ.below {w W W' : World} {so : Option Addr} {sn sc : Nat} {ao : Option Addr} {an ac B : Nat} (h : UnZ w W so sn sc ao an ac) (k : Below B W W') (hB : w.heap.size + 2 ≤ B) : UnZ w W' so sn sc ao an ac :=
  ⟨(k.block _ (by omega)).trans h.x, (k.block _ (by omega)).trans h.r, h.bel.trans (k.mono (by omega))⟩
theorem un_startZ (w : World) (so : Option Addr) (sn sc : Nat) (ao : Option Addr) (an ac : Nat) :
    UnZ w ((w.alloc (.cells #[.slice so sn sc, .slice ao an ac] 36)).alloc (.cells #[.slice none 0 0, .slice none 0 0] 36)) so sn sc ao an ac := by
  have k1 := box_below w (.cells #[.slice so sn sc, .slice ao an ac] 36)
  have b1 := allocNew w (.cells #[.slice so sn sc, .slice ao an ac] 36)
  have k2 := box_below (w.alloc (.cells #[.slice so sn sc, .slice ao an ac] 36)) (.cells #[.slice none 0 0, .slice none 0 0] 36)
  have b2 := allocNew (w.alloc (.cells #[.slice so sn sc, .slice ao an ac] 36)) (.cells #[.slice none 0 0, .slice none 0 0] 36)
  simp only [World.size_alloc] at k2 b2
  exact ⟨(k2.block _ (by omega)).trans b1, b2, k1.trans (k2.mono (by omega))⟩
/-- Two arrays in their boxes, and a box for the answer. -/
structure DuZ (w W : World) (so : Option Addr) (sn sc : Nat) (ao : Option Addr) (an ac : Nat) (uo : Option Addr) (un uc : Nat) (bo : Option Addr) (bn bc : Nat) : Prop where
  x : W.heap[w.heap.size]? = some (.cells #[.slice so sn sc, .slice ao an ac] 36 (0, 0))
  y : W.heap[w.heap.size + 1]? = some (.cells #[.slice uo un uc, .slice bo bn bc] 36 (0, 0))
  r : W.heap[w.heap.size + 1 + 1]? = some (.cells #[.slice none 0 0, .slice none 0 0] 36 (0, 0))
  bel : Below w.heap.size w W
theorem DuZ.sz {w W : World} {so : Option Addr} {sn sc : Nat} {ao : Option Addr} {an ac : Nat} {uo : Option Addr} {un uc : Nat} {bo : Option Addr} {bn bc : Nat} (h : DuZ w W so sn sc ao an ac uo un uc bo bn bc) : w.heap.size + 3 ≤ W.heap.size := by
  have := (Array.getElem?_eq_some_iff.1 h.r).1
  omega
theorem DuZ.below {w W W' : World} {so : Option Addr} {sn sc : Nat} {ao : Option Addr} {an ac : Nat} {uo : Option Addr} {un uc : Nat} {bo : Option Addr} {bn bc B : Nat} (h : DuZ w W so sn sc ao an ac uo un uc bo bn bc) (k : Below B W W') (hB : w.heap.size + 3 ≤ B) : DuZ w W' so sn sc ao an ac uo un uc bo bn bc :=
  ⟨(k.block _ (by omega)).trans h.x, (k.block _ (by omega)).trans h.y, (k.block _ (by omega)).trans h.r, h.bel.trans (k.mono (by omega))⟩
theorem du_startZ (w : World) (so : Option Addr) (sn sc : Nat) (ao : Option Addr) (an ac : Nat) (uo : Option Addr) (un uc : Nat) (bo : Option Addr) (bn bc : Nat) :
    DuZ w (((w.alloc (.cells #[.slice so sn sc, .slice ao an ac] 36)).alloc (.cells #[.slice uo un uc, .slice bo bn bc] 36)).alloc (.cells #[.slice none 0 0, .slice none 0 0] 36)) so sn sc ao an ac uo un uc bo bn bc := by
  have k1 := box_below w (.cells #[.slice so sn sc, .slice ao an ac] 36)
  have b1 := allocNew w (.cells #[.slice so sn sc, .slice ao an ac] 36)
  have k2 := box_below (w.alloc (.cells #[.slice so sn sc, .slice ao an ac] 36)) (.cells #[.slice uo un uc, .slice bo bn bc] 36)
  have b2 := allocNew (w.alloc (.cells #[.slice so sn sc, .slice ao an ac] 36)) (.cells #[.slice uo un uc, .slice bo bn bc] 36)
  have k3 := box_below ((w.alloc (.cells #[.slice so sn sc, .slice ao an ac] 36)).alloc (.cells #[.slice uo un uc, .slice bo bn bc] 36)) (.cells #[.slice none 0 0, .slice none 0 0] 36)
  have b3 := allocNew ((w.alloc (.cells #[.slice so sn sc, .slice ao an ac] 36)).alloc (.cells #[.slice uo un uc, .slice bo bn bc] 36)) (.cells #[.slice none 0 0, .slice none 0 0] 36)
  simp only [World.size_alloc] at k2 b2 k3 b3
  exact ⟨(k3.block _ (by omega)).trans ((k2.block _ (by omega)).trans b1), (k3.block _ (by omega)).trans b2, b3, (k1.trans (k2.mono (by omega))).trans (k3.mono (by omega))⟩
/-- A result's box is written: what else there is, and the new rows. -/
theorem ft_setZ {e : TypeId} {V : World} {B b : Nat} {o : Option Addr} {n c : Nat} {zs : List Int} (h : Ft e V B o n c zs) (hb : b < B) (u v : Value) : Ft e ((V.setCell ⟨b, 0, none⟩ u).setCell ⟨b, 1, none⟩ v) B o n c zs := by
  have a := h.at
  exact h.keep1 (set2 V b 0 1 u v) (fun b' off e e' => by have := (a b' off e).1; injection e' with e'; omega)

theorem range_snoc (i : Nat) (g : Nat → Int) : (List.range i).map g ++ [g i] = (List.range (i + 1)).map g := by
  rw [List.range_succ, List.map_append]; rfl
theorem infoI3 : (Tryz.prog.info? 3).map (fun i => (i.zero, i.size, i.bytes)) = some (some (.int .i64 0), 1, 8) := by kernel_rfl
/-- What a call answers: an array and an error. -/
def AnsZ (w : World) (Φ : List Int → List Int → Prop) (E : Int) (e : Ending) (w' : World) : Prop := ∃ o1 n1 c1 o2 n2 c2 S A, e = .returned (.tuple #[.agg #[.slice o1 n1 c1, .slice o2 n2 c2], .int .i64 E]) ∧ Ft 3 w' w.heap.size o1 n1 c1 S ∧ Ft 2 w' w.heap.size o2 n2 c2 A ∧ Φ S A ∧ Below w.heap.size w w'
set_option maxRecDepth 20000 in
theorem nmPres (y : Int) (hy : Nm.inr y = true) (w : World) :
    Calls Tryz.prog 90 #[.int .i64 5, .int .i64 y] w fun e w' => e = .returned (.tuple #[.int .i64 (Nm.cut ((y.natAbs : Nat))), .int .i64 (Nm.ovr ((y.natAbs : Nat)))]) ∧ w' = w := by
  have hb := Nm.inr_iff.1 hy
  have hz : y.natAbs < 18446744073709551616 := by omega
  clear hb
  go_enter Tryz.func90, Tryz.ntmps90
  go_wp2_with (first | (go_at_call 105; refine (Nm.size_any _ (by assumption) _).mono ?_; rintro e w' ⟨rfl, rfl⟩) | (go_at_call 104; refine (Nm.unsigned_any _ (by assumption) _).mono ?_; rintro e w' ⟨rfl, rfl⟩))
  go_ret2
  exact ⟨rfl, rfl⟩
end Go.Proofs.YtelcagfaflpolaaGreat
