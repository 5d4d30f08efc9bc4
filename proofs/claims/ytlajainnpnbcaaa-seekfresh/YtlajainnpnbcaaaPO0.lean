
/- PrimIdentity: an array of one's own; turned. -/

import Derived.Test.YtlajainnpnbcaaaZA

import Derived.Test.YtlajainnpnbcaaaA11

import Derived.Test.YtlajainnpnbcaaaYT

import Derived.Deep.RegionHeld3

import Derived.Maps.AppendAt

namespace Go.Proofs.Ytlajainnpnbcaaa

open Go.RowKit

set_option linter.unusedVariables false

theorem below_grown {a b : World} {B : Nat} (h : a.grownBy b none) (hB : B ≤ a.heap.size) : Below B a b :=
  ⟨h.os, h.tape, h.output, h.size, fun j hj => h.block j (Nat.lt_of_lt_of_le hj hB) (by simp)⟩
/-- An array in a box, and the result's box, whatever lies in it. -/
structure UnV (w W : World) (so : Option Addr) (sn sc : Nat) (ao : Option Addr) (an ac : Nat) : Prop where
  x : W.heap[w.heap.size]? = some (.cells #[.slice so sn sc, .slice ao an ac] 36 (0, 0))
  r : ∃ u v, W.heap[w.heap.size + 1]? = some (.cells #[u, v] 36 (0, 0))
  bel : Below w.heap.size w W
theorem UnV.sz {w W : World} {so : Option Addr} {sn sc : Nat} {ao : Option Addr} {an ac : Nat} (h : UnV w W so sn sc ao an ac) : w.heap.size + 2 ≤ W.heap.size := by
  obtain ⟨u, v, r⟩ := h.r
  have := (Array.getElem?_eq_some_iff.1 r).1
  omega
theorem UnV.below {w W W' : World} {so : Option Addr} {sn sc : Nat} {ao : Option Addr} {an ac B : Nat} (h : UnV w W so sn sc ao an ac) (k : Below B W W') (hB : w.heap.size + 2 ≤ B) : UnV w W' so sn sc ao an ac := by
  obtain ⟨u, v, r⟩ := h.r
  exact ⟨(k.block _ (by omega)).trans h.x, ⟨u, v, (k.block _ (by omega)).trans r⟩, h.bel.trans (k.mono (by omega))⟩
theorem UnV.set {w W : World} {so : Option Addr} {sn sc : Nat} {ao : Option Addr} {an ac : Nat} (h : UnV w W so sn sc ao an ac) (a b : Value) (he : (((W.setCell ⟨w.heap.size + 1, 0, none⟩ a).setCell ⟨w.heap.size + 1, 1, none⟩ b).heap[w.heap.size + 1]?) = some (.cells #[a, b] 36 (0, 0))) : UnV w ((W.setCell ⟨w.heap.size + 1, 0, none⟩ a).setCell ⟨w.heap.size + 1, 1, none⟩ b) so sn sc ao an ac := by
  have k := set2 W (w.heap.size + 1) 0 1 a b
  exact ⟨(k.block _ (by have := h.sz; omega) (fun e => by injection e with e; omega)).trans h.x, ⟨a, b, he⟩, below_set2 _ _ _ _ h.bel (by omega) (Nat.le_refl _)⟩

set_option maxHeartbeats 2000000 in
theorem own3_any (so ao : Option Addr) (sn sc an ac : Nat) (sh at' : List Int) (w : World) (h : Rd w so sn sh) (ss : Sl so sn sc) (g : Rd w ao an at') (sa : Sl ao an ac) :
    Calls Try.prog 6 #[.agg #[.slice so sn sc, .slice ao an ac]] w fun e w' => ∃ o1 c1 o2 c2, e = .returned (.agg #[.slice o1 sn c1, .slice o2 an c2]) ∧ Ft 3 w' w.heap.size o1 sn c1 sh ∧ Ft 2 w' w.heap.size o2 an c2 at' ∧ Below w.heap.size w w' := by
  have U0 := un_startZ w so sn sc ao an ac
  have s0 := U0.sz
  have V0 : UnV w ((w.alloc (.cells #[.slice so sn sc, .slice ao an ac] 36)).alloc (.cells #[.slice none 0 0, .slice none 0 0] 36)) so sn sc ao an ac := ⟨U0.x, ⟨_, _, U0.r⟩, U0.bel⟩
  have U1 : UnV w ((w.alloc (.cells #[.slice so sn sc, .slice ao an ac] 36)).alloc (.cells #[.slice none 0 0, .slice none 0 0] 36)).drew so sn sc ao an ac := V0.below (B := w.heap.size + 2) (Below.refl _ _).drew (Nat.le_refl _)
  have r1 := h.room
  have r2 := g.room
  have al : ∀ V, UnV w V so sn sc ao an ac → V.cell? ⟨w.heap.size, 0, none⟩ = some (.slice so sn sc) ∧ V.cell? ⟨w.heap.size, 1, none⟩ = some (.slice ao an ac) := fun V D => ⟨(box2 D.x).1, (box2 D.x).2.1⟩
  go_enter Try.func6, Try.ntmps6
  go_wp2
  go_region_held3 (fun V => V.cell? ⟨w.heap.size, 0, none⟩ = some (.slice so sn sc) ∧ V.cell? ⟨w.heap.size, 1, none⟩ = some (.slice ao an ac)) (first | exact al _ U1 | exact al _ U3 | exact al _ U4 | exact S6)
    (first
      | (have sz := U1.sz; refine step_joinW tyI rfl (.const (.slice none 0 0)) (.tmp 4) rfl (w.heap.size + 2) sn none so 0 0 sn sc [] sh (Nat.zero_add _) rfl rfl (Ft.nil _ _ _) (h.below U1.bel (Nat.le_refl _)) ss (by omega) sz ?_; intro o1 c1 w3 f3 g3 q3; rw [List.nil_append] at f3; have k3 : Below (w.heap.size + 2) _ w3 := below_grown g3 sz; have U3 := U1.below k3 (Nat.le_refl _); have s3 := U3.sz)
      | (have sz := U3.sz; refine step_joinW tyL rfl (.const (.slice none 0 0)) (.tmp 7) rfl (w.heap.size + 2) an none ao 0 0 an ac [] at' (Nat.zero_add _) rfl rfl (Ft.nil _ _ _) (g.below U3.bel (Nat.le_refl _)) sa (by omega) sz ?_; intro o2 c2 w4 f4 g4 q4; rw [List.nil_append] at f4; have k4 : Below (w.heap.size + 2) _ w4 := below_grown g4 sz; have U4 := U3.below k4 (Nat.le_refl _); have s4 := U4.sz; have f5 := f3.below (below_grown (B := w3.heap.size) g4 (Nat.le_refl _)) (Nat.le_refl _); obtain ⟨u4, v4, R4⟩ := U4.r; obtain ⟨z0, z1, z2, z3⟩ := box2 R4; have xx := (set2 w4 (w.heap.size + 1) 0 1 (.slice o1 sn c1) (.slice o2 an c2)).block w.heap.size (by omega) (fun e => by injection e with e; omega); have yy := box2 (xx.trans U4.x); have S6 : _ ∧ _ := ⟨yy.1, yy.2.1⟩))
  go_wp2
  (try simp only [Exit.inBlock, Exit.then])
  refine bodyPost_ret (v := .agg #[.slice o1 sn c1, .slice o2 an c2]) (by simp [results, Try.results6]; go_simp) rfl ?_
  exact ⟨o1, c1, o2, c2, rfl, (ft_setZ f5 (by omega) _ _).mono (by omega), (ft_setZ f4 (by omega) _ _).mono (by omega), below_set2 _ _ _ _ U4.bel (by omega) (Nat.le_refl _)⟩
end Go.Proofs.Ytlajainnpnbcaaa
