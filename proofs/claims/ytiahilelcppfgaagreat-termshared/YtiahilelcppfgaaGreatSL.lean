
/- Eq: a term read twice is the same. -/

import Derived.Test.YtiahilelcppfgaaGreatSG

namespace Go.Proofs.YtiahilelcppfgaaGreat

open Go.RowKit

set_option linter.unusedVariables false

set_option linter.unusedSimpArgs false in
set_option maxHeartbeats 4000000 in
theorem teq_any (d : Nat) (x : Tr d) (c0 c1 c2 c3 c4 c5 e0 e1 e2 e3 e4 e5 : Value) (w : World) (h : Tv w d x [c0, c1, c2, c3, c4, c5]) (h2 : Tv w d x [e0, e1, e2, e3, e4, e5]) (ho : szO d x = true) :
    Calls Tryz.prog 22 #[.agg #[c0, c1, c2, c3, c4, c5], .agg #[e0, e1, e2, e3, e4, e5]] w fun e w' => e = .returned (.bool true) ∧ Below w.heap.size w w' := by
  obtain ⟨k1, t1, n1, so, sn, sc, ao, an, ac, uo, un, uc, ev⟩ := h.form
  injection ev with ev0 ev
  injection ev with ev1 ev
  injection ev with ev2 ev
  injection ev with ev3 ev
  injection ev with ev4 ev
  injection ev with ev5 ev
  subst ev0 ev1 ev2 ev3 ev4 ev5
  obtain ⟨k2, t2, n2, so2, sn2, sc2, ao2, an2, ac2, uo2, un2, uc2, ev⟩ := h2.form
  injection ev with ev0 ev
  injection ev with ev1 ev
  injection ev with ev2 ev
  injection ev with ev3 ev
  injection ev with ev4 ev
  injection ev with ev5 ev
  subst ev0 ev1 ev2 ev3 ev4 ev5
  have hd := of_decide_eq_true (show decide (nds d x ≤ 4096 ∧ dep d x ≤ 256) = true from ho)
  have k0 := box_below w (.cells #[.int .i64 k1, .string t1, .int .i64 n1, .slice so sn sc, .slice ao an ac, .slice uo un uc] 31)
  have kb := box_below (w.alloc (.cells #[.int .i64 k1, .string t1, .int .i64 n1, .slice so sn sc, .slice ao an ac, .slice uo un uc] 31)) (.cells #[.int .i64 k2, .string t2, .int .i64 n2, .slice so2 sn2 sc2, .slice ao2 an2 ac2, .slice uo2 un2 uc2] 31)
  have kc := box_below ((w.alloc (.cells #[.int .i64 k1, .string t1, .int .i64 n1, .slice so sn sc, .slice ao an ac, .slice uo un uc] 31)).alloc (.cells #[.int .i64 k2, .string t2, .int .i64 n2, .slice so2 sn2 sc2, .slice ao2 an2 ac2, .slice uo2 un2 uc2] 31)) (.cells #[.int .i64 4096] 3)
  have kab := k0.trans (kb.mono k0.size)
  have kk := kab.trans (kc.mono kab.size)
  have R0 := (kc.block w.heap.size (by simp; omega)).trans ((kb.block w.heap.size (by simp)).trans (allocNew w (.cells #[.int .i64 k1, .string t1, .int .i64 n1, .slice so sn sc, .slice ao an ac, .slice uo un uc] 31)))
  have R1' := allocNew (w.alloc (.cells #[.int .i64 k1, .string t1, .int .i64 n1, .slice so sn sc, .slice ao an ac, .slice uo un uc] 31)) (.cells #[.int .i64 k2, .string t2, .int .i64 n2, .slice so2 sn2 sc2, .slice ao2 an2 ac2, .slice uo2 un2 uc2] 31)
  rw [World.size_alloc] at R1'
  have R1 := (kc.block (w.heap.size + 1) (by simp)).trans R1'
  have N1 := Boxed.new ((w.alloc (.cells #[.int .i64 k1, .string t1, .int .i64 n1, .slice so sn sc, .slice ao an ac, .slice uo un uc] 31)).alloc (.cells #[.int .i64 k2, .string t2, .int .i64 n2, .slice so2 sn2 sc2, .slice ao2 an2 ac2, .slice uo2 un2 uc2] 31)) 3 (.int .i64 4096)
  simp only [World.size_alloc] at N1
  obtain ⟨y0, y1, y2, y3, y4, y5⟩ := box6 R0
  obtain ⟨z0, z1, z2, z3, z4, z5⟩ := box6 R1
  have hdp := deep_any d x _ _ _ _ _ _ _ _ _ _ _ _ w (w.heap.size + 1 + 1) 4096 255 _ (by omega) h h2 kk N1 (by omega) (by omega) (by omega) (by omega)
  unfold DeP at hdp
  rw [show ((255 : Nat) : Int) = 255 from rfl] at hdp
  generalize nds d x = NN at *
  clear h h2 ho hd k0 kb kc kab R1' N1
  go_enter Tryz.func22, Tryz.ntmps22
  go_wp2_with (go_at_call 46; (with_reducible refine hdp.mono ?_); rintro e w5 ⟨rfl, ch, _⟩)
  go_ret
  exact ⟨rfl, ch.below kk (fun b e => by omega) (Nat.le_refl _)⟩
end Go.Proofs.YtiahilelcppfgaaGreat
