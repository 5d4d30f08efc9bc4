
/- Contract of package mold: one array behind another, of one item's shape. -/

import Derived.Test.YtldhochafkcpiaaGreatMO

namespace Go.Proofs.YtldhochafkcpiaaGreat

open Go.RowKit

set_option linter.unusedVariables false

theorem run_max3 {P : Program} (w : World) (ts : Array TypeId) (t : TypeId) (n m : Nat) (hn : 0 < n) (hm : m ≤ n) : (Builtin.max_ ts t #[.int .i64 1, .int .i64 (n : Nat), .int .i64 (m : Nat)]).run P w = .ok (.int .i64 (n : Nat)) w := by
  have e : ∀ x y z : Int, (Builtin.max_ ts t #[.int .i64 x, .int .i64 y, .int .i64 z]).run P w = .ok (.int .i64 (if z > (if y > x then y else x) then z else (if y > x then y else x))) w := fun x y z => by
    simp [Builtin.max_, Builtin.max2]
  rw [e]
  congr 2
  split <;> split at * <;> omega
theorem com_twice (a : List Int) : com a a = a := by
  have hl : (com a a).length = a.length := by simp [com]
  refine ext_nth hl fun k hk => ?_
  rw [hl] at hk
  unfold com
  rw [nth_lt (by simpa using hk)]
  simp only [List.getElem_map, List.getElem_range]
  rw [ext_self (by simp), Int.max_self]
theorem cov_twice {I : List Int} (h : mayF I = 0) : covE [I, I] = 0 ∧ covL [I, I] = I := by
  have c1 : cst [I, I] 1 = I := com_twice I
  have c2 : cst [I, I] 2 = I := by show com (cst [I, I] 1) I = I; rw [c1]; exact com_twice I
  have e1 : cE [I, I] 1 = 0 := by rw [cE_com (zss := [I, I]) (k := 0) rfl h, c1, h]
  have e2 : cE [I, I] 2 = 0 := by rw [cE_com (zss := [I, I]) (k := 1) e1 h, c2, h]
  have := cov_good (zss := [I, I]) (n := 2) rfl (by omega) e2
  rw [c2] at this
  exact this
theorem mayF_tl {s : List Int} (h : mayF s = 0) : mayF (s.drop 1) = 0 := mayF_tail h
def jnA (s l : List Int) : List Int := if mayF s = 0 then l else []
theorem rs_pair {W : World} {so to : Option Addr} {sn sc tn tc : Nat} {sh th : List Int} (h : Rd W so sn sh) (hs : Sl so sn sc) (g : Rd W to tn th) (gs : Sl to tn tc) : Rs (W.alloc (.cells #[.slice so sn sc, .slice to tn tc] 23)) (some ⟨W.heap.size, 0, none⟩) 2 [sh, th] := by
  obtain ⟨x0, x1, _, _⟩ := box2 (allocNew W (.cells #[.slice so sn sc, .slice to tn tc] 23))
  refine ⟨rfl, by omega, fun _ => ⟨W.heap.size, 0, rfl, by simp, fun k hk => ?_⟩⟩
  rcases (by omega : k = 0 ∨ k = 1) with rfl | rfl
  · exact ⟨so, sn, sc, x0, h.below (box_below W _) (Nat.le_refl _), hs⟩
  · exact ⟨to, tn, tc, x1, g.below (box_below W _) (Nat.le_refl _), gs⟩

/-- Two arrays in their boxes, which may be written, and a third box. -/
structure Dw (w W : World) (xso : Option Addr) (xsn xsc : Nat) (xo : Option Addr) (xn xc : Nat) (so : Option Addr) (sn sc : Nat) (ao : Option Addr) (an ac : Nat) : Prop where
  x : W.heap[w.heap.size]? = some (.cells #[.slice xso xsn xsc, .slice xo xn xc] 25 (0, 0))
  y : W.heap[w.heap.size + 1]? = some (.cells #[.slice so sn sc, .slice ao an ac] 25 (0, 0))
  r : ∃ u v, W.heap[w.heap.size + 1 + 1]? = some (.cells #[u, v] 25 (0, 0))
  bel : Below w.heap.size w W
theorem Dw.sz {w W : World} {xso : Option Addr} {xsn xsc : Nat} {xo : Option Addr} {xn xc : Nat} {so : Option Addr} {sn sc : Nat} {ao : Option Addr} {an ac : Nat} (h : Dw w W xso xsn xsc xo xn xc so sn sc ao an ac) : w.heap.size + 3 ≤ W.heap.size := by
  obtain ⟨u, v, hr⟩ := h.r
  have := (Array.getElem?_eq_some_iff.1 hr).1
  omega
theorem Dw.below {w W W' : World} {xso : Option Addr} {xsn xsc : Nat} {xo : Option Addr} {xn xc : Nat} {so : Option Addr} {sn sc : Nat} {ao : Option Addr} {an ac : Nat} {B : Nat} (h : Dw w W xso xsn xsc xo xn xc so sn sc ao an ac) (k : Below B W W') (hB : W.heap.size ≤ B) : Dw w W' xso xsn xsc xo xn xc so sn sc ao an ac := by
  have hs := h.sz
  obtain ⟨u, v, hr⟩ := h.r
  exact ⟨(k.block _ (by omega)).trans h.x, (k.block _ (by omega)).trans h.y, ⟨u, v, (k.block _ (by omega)).trans hr⟩, h.bel.trans (k.mono (by omega))⟩
theorem Dw.drew {w W : World} {xso : Option Addr} {xsn xsc : Nat} {xo : Option Addr} {xn xc : Nat} {so : Option Addr} {sn sc : Nat} {ao : Option Addr} {an ac : Nat} (h : Dw w W xso xsn xsc xo xn xc so sn sc ao an ac) : Dw w W.drew xso xsn xsc xo xn xc so sn sc ao an ac := h.below (Below.refl _ W).drew (Nat.le_refl _)
theorem Dw.all {w W : World} {xso : Option Addr} {xsn xsc : Nat} {xo : Option Addr} {xn xc : Nat} {so : Option Addr} {sn sc : Nat} {ao : Option Addr} {an ac : Nat} (h : Dw w W xso xsn xsc xo xn xc so sn sc ao an ac) : W.cell? ⟨w.heap.size, 0, none⟩ = some (.slice xso xsn xsc) ∧ W.cell? ⟨w.heap.size, 1, none⟩ = some (.slice xo xn xc) ∧ W.cell? ⟨w.heap.size + 1, 0, none⟩ = some (.slice so sn sc) ∧ W.cell? ⟨w.heap.size + 1, 1, none⟩ = some (.slice ao an ac) ∧ Dw w W xso xsn xsc xo xn xc so sn sc ao an ac :=
  ⟨(box2 h.x).1, (box2 h.x).2.1, (box2 h.y).1, (box2 h.y).2.1, h⟩
theorem Dw.fz {w W : World} {xso : Option Addr} {xsn xsc : Nat} {xo : Option Addr} {xn xc : Nat} {so : Option Addr} {sn sc : Nat} {ao : Option Addr} {an ac : Nat} (h : Dw w W xso xsn xsc xo xn xc so sn sc ao an ac) : W.frozen? ⟨w.heap.size, 0, none⟩ = false ∧ W.frozen? ⟨w.heap.size, 1, none⟩ = false ∧ W.frozen? ⟨w.heap.size + 1, 0, none⟩ = false ∧ W.frozen? ⟨w.heap.size + 1, 1, none⟩ = false :=
  ⟨(box2 h.x).2.2.1, (box2 h.x).2.2.2, (box2 h.y).2.2.1, (box2 h.y).2.2.2⟩
theorem dw_start (w : World) (xso : Option Addr) (xsn xsc : Nat) (xo : Option Addr) (xn xc : Nat) (so : Option Addr) (sn sc : Nat) (ao : Option Addr) (an ac : Nat) : Dw w (((w.alloc (.cells #[.slice xso xsn xsc, .slice xo xn xc] 25)).alloc (.cells #[.slice so sn sc, .slice ao an ac] 25)).alloc (.cells #[.slice none 0 0, .slice none 0 0] 25)) xso xsn xsc xo xn xc so sn sc ao an ac := by
  have b0 := allocNew w (.cells #[.slice xso xsn xsc, .slice xo xn xc] 25)
  have b1 := allocNew (w.alloc (.cells #[.slice xso xsn xsc, .slice xo xn xc] 25)) (.cells #[.slice so sn sc, .slice ao an ac] 25)
  have b2 := allocNew ((w.alloc (.cells #[.slice xso xsn xsc, .slice xo xn xc] 25)).alloc (.cells #[.slice so sn sc, .slice ao an ac] 25)) (.cells #[.slice none 0 0, .slice none 0 0] 25)
  have k1 := box_below (w.alloc (.cells #[.slice xso xsn xsc, .slice xo xn xc] 25)) (.cells #[.slice so sn sc, .slice ao an ac] 25)
  have k2 := box_below ((w.alloc (.cells #[.slice xso xsn xsc, .slice xo xn xc] 25)).alloc (.cells #[.slice so sn sc, .slice ao an ac] 25)) (.cells #[.slice none 0 0, .slice none 0 0] 25)
  have k3 := three_below w (.cells #[.slice xso xsn xsc, .slice xo xn xc] 25) (.cells #[.slice so sn sc, .slice ao an ac] 25) (.cells #[.slice none 0 0, .slice none 0 0] 25)
  simp only [World.size_alloc] at b1 b2
  exact ⟨(k2.block _ (by simp; omega)).trans ((k1.block _ (by simp)).trans b0), (k2.block _ (by simp)).trans b1, ⟨_, _, b2⟩, k3⟩
theorem Dw.setR {w W : World} {xso : Option Addr} {xsn xsc : Nat} {xo : Option Addr} {xn xc : Nat} {so : Option Addr} {sn sc : Nat} {ao : Option Addr} {an ac : Nat} (h : Dw w W xso xsn xsc xo xn xc so sn sc ao an ac) (u v : Value) : Dw w ((W.setCell ⟨w.heap.size + 1 + 1, 0, none⟩ u).setCell ⟨w.heap.size + 1 + 1, 1, none⟩ v) xso xsn xsc xo xn xc so sn sc ao an ac := by
  have hs := h.sz
  have hg := set2 W (w.heap.size + 1 + 1) 0 1 u v
  obtain ⟨s, t, hr⟩ := h.r
  have a1 := heap_setCell_same W (w.heap.size + 1 + 1) 0 _ 25 u hr
  have a2 := heap_setCell_same _ (w.heap.size + 1 + 1) 1 _ 25 v a1
  exact ⟨(hg.block _ (by omega) (some_ne (by omega))).trans h.x, (hg.block _ (by omega) (some_ne (by omega))).trans h.y, ⟨u, v, by simpa using a2⟩, below_set2 _ _ _ _ h.bel (by omega) (Nat.le_refl _)⟩
/-- The first box is written. -/
theorem Dw.setX {w W : World} {xso : Option Addr} {xsn xsc : Nat} {xo : Option Addr} {xn xc : Nat} {so : Option Addr} {sn sc : Nat} {ao : Option Addr} {an ac : Nat} (h : Dw w W xso xsn xsc xo xn xc so sn sc ao an ac) (u v : Option Addr) (m mc q qc : Nat) : Dw w ((W.setCell ⟨w.heap.size, 0, none⟩ (.slice u m mc)).setCell ⟨w.heap.size, 1, none⟩ (.slice v q qc)) u m mc v q qc so sn sc ao an ac := by
  have hs := h.sz
  have hg := set2 W w.heap.size 0 1 (.slice u m mc) (.slice v q qc)
  have a1 := heap_setCell_same W w.heap.size 0 _ 25 (.slice u m mc) h.x
  have a2 := heap_setCell_same _ w.heap.size 1 _ 25 (.slice v q qc) a1
  obtain ⟨s, t, hr⟩ := h.r
  exact ⟨by simpa using a2, (hg.block _ (by omega) (some_ne (by omega))).trans h.y, ⟨s, t, (hg.block _ (by omega) (some_ne (by omega))).trans hr⟩, below_set2 _ _ _ _ h.bel (Nat.le_refl _) (Nat.le_refl _)⟩
theorem Dw.setY {w W : World} {xso : Option Addr} {xsn xsc : Nat} {xo : Option Addr} {xn xc : Nat} {so : Option Addr} {sn sc : Nat} {ao : Option Addr} {an ac : Nat} (h : Dw w W xso xsn xsc xo xn xc so sn sc ao an ac) (u v : Option Addr) (m mc q qc : Nat) : Dw w ((W.setCell ⟨w.heap.size + 1, 0, none⟩ (.slice u m mc)).setCell ⟨w.heap.size + 1, 1, none⟩ (.slice v q qc)) xso xsn xsc xo xn xc u m mc v q qc := by
  have hs := h.sz
  have hg := set2 W (w.heap.size + 1) 0 1 (.slice u m mc) (.slice v q qc)
  have a1 := heap_setCell_same W (w.heap.size + 1) 0 _ 25 (.slice u m mc) h.y
  have a2 := heap_setCell_same _ (w.heap.size + 1) 1 _ 25 (.slice v q qc) a1
  obtain ⟨s, t, hr⟩ := h.r
  exact ⟨(hg.block _ (by omega) (some_ne (by omega))).trans h.x, by simpa using a2, ⟨s, t, (hg.block _ (by omega) (some_ne (by omega))).trans hr⟩, below_set2 _ _ _ _ h.bel (by omega) (Nat.le_refl _)⟩

end Go.Proofs.YtldhochafkcpiaaGreat
