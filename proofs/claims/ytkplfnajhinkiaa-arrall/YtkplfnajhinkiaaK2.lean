
/- The memory in which an array is handed in: a long array is handed in as it is. -/

import Derived.Test.YtkplfnajhinkiaaK1

namespace Go.Proofs.Ytkplfnajhinkiaa

open Go.RowKit

set_option linter.unusedVariables false

set_option maxHeartbeats 4000000 in
theorem lay_long (hb B : Nat) (go0 go1 : Option Addr) (n0 n1 : Nat) (so ao : Option Addr) (sn sc an ac : Nat) (w : World) (hx : Hx w B hb go0 n0 go1 n1) (hl : ¬ (sn ≤ 5000 ∧ an ≤ 5000)) :
    Calls Try.prog 69 #[.pointer (some ⟨hb, 0, none⟩), .agg #[.slice so sn sc, .slice ao an ac]] w fun e w' => e = .returned (.agg #[.slice so sn sc, .slice ao an ac]) ∧ Hx w' B hb none 0 none 0 ∧ Kp w w' (fun b => b = hb) := by
  have t := two_boxes w so ao none none sn sc an ac 0 0 0 0
  have b1 := allocNew (w.alloc (.cells #[.slice so sn sc, .slice ao an ac] 55)) (.cells #[.slice none 0 0, .slice none 0 0] 55)
  have b0 := ((box_below (w.alloc (.cells #[.slice so sn sc, .slice ao an ac] 55)) (.cells #[.slice none 0 0, .slice none 0 0] 55)).block w.heap.size (by simp)).trans (allocNew w (.cells #[.slice so sn sc, .slice ao an ac] 55))
  rw [World.size_alloc] at b1
  have lh := (Array.getElem?_eq_some_iff.1 hx.box).1
  have cs := fun W => short_any so ao sn sc an ac W
  rw [show (decide (sn ≤ 5000) && decide (an ≤ 5000)) = false by simp; omega] at cs
  have szl : ((w.alloc (.cells #[.slice so sn sc, .slice ao an ac] 55)).alloc (.cells #[.slice none 0 0, .slice none 0 0] 55)).heap.size = w.heap.size + 1 + 1 := by simp
  have hbox0 := (t.bel.block hb lh).trans hx.box
  have ne1 : ¬ hb = w.heap.size := by omega
  have ne2 : ¬ hb = w.heap.size + 1 := by omega
  have ne3 : ¬ w.heap.size = hb := by omega
  have ne4 : ¬ w.heap.size + 1 = hb := by omega
  go_enter Try.func69, Try.ntmps69
  go_wp2_with (go_at_call 20; refine (cs _).mono ?_; rintro e w1 ⟨rfl, k1⟩; have hbox := (k1.block hb (by rw [szl]; omega)).trans hbox0; have abox := (k1.block w.heap.size (by rw [szl]; omega)).trans b0; have rbox := (k1.block (w.heap.size + 1) (by rw [szl]; omega)).trans b1; obtain ⟨x1, x2, x3, x4⟩ := box2 hbox; obtain ⟨y1, y2, y3, y4⟩ := box2 abox; obtain ⟨z1, z2, z3, z4⟩ := box2 rbox)
  (try simp only [Exit.inBlock, Exit.then])
  refine bodyPost_ret (v := .agg #[.slice so sn sc, .slice ao an ac]) (by simp [results, Try.results69]; go_simp) rfl ?_
  have s1 := set2 w1 hb 0 1 (.slice none 0 0) (.slice none 0 0)
  have s2 := set2 ((w1.setCell ⟨hb, 0, none⟩ (.slice none 0 0)).setCell ⟨hb, 1, none⟩ (.slice none 0 0)) (w.heap.size + 1) 0 1 (.slice so sn sc) (.slice ao an ac)
  have h1 := heap_setCell_same w1 hb 0 _ 52 (.slice none 0 0) hbox
  have h2 := heap_setCell_same _ hb 1 _ 52 (.slice none 0 0) h1
  have l1 := (Array.getElem?_eq_some_iff.1 hbox).1
  have hk1 : Kp w w1 (fun b => b = hb) := Kp.ofBelow (t.bel.trans (k1.mono (by rw [szl]; omega)))
  refine ⟨rfl, ⟨(s2.block hb (by have := s1.size; omega) (by simp; omega)).trans (by simpa using h2), hx.base, Rw.nil _ _ _, Rw.nil _ _ _⟩, ?_⟩
  refine (hk1.trans (Kp.of s1) (fun j hj e => by cases e; rfl)).trans (Kp.of s2) (fun j hj e => by cases e; omega)

/-- Kept, of a hand that holds nothing. -/
theorem kept3_nil (hb B : Nat) (so ao : Option Addr) (sn sc an ac : Nat) (w : World) (hx : Hx w B hb none 0 none 0) :
    Calls Try.prog 79 #[.pointer (some ⟨hb, 0, none⟩), .agg #[.slice so sn sc, .slice ao an ac]] w fun e w' => e = .returned (.bool true) ∧ Below w.heap.size w w' := by
  have kb := box_below w (.cells #[.slice so sn sc, .slice ao an ac] 55)
  have lh := (Array.getElem?_eq_some_iff.1 hx.box).1
  obtain ⟨x1, x2, _, _⟩ := box2 ((kb.block hb lh).trans hx.box)
  go_enter Try.func79, Try.ntmps79
  go_wp2
  refine wp_loop_rounds 1 ?_
  rw [rounds_succ]
  go_wp2
  refine wp_loop_rounds 1 ?_
  rw [rounds_succ]
  go_wp2
  go_ret
  exact ⟨rfl, kb⟩
end Go.Proofs.Ytkplfnajhinkiaa
