
/- Package term: Copy, Same. -/

import Derived.Test.YtiahilelcppfgaaGreatTV

namespace Go.Proofs.YtiahilelcppfgaaGreat

open Go.RowKit

set_option linter.unusedVariables false

theorem cloned_any : ∀ (d : Nat) (x : Tr d) (c0 c1 c2 c3 c4 c5 : Value) (w0 w : World), Tv w0 d x [c0, c1, c2, c3, c4, c5] → Below w0.heap.size w0 w → Calls Tryz.prog 37 #[.agg #[c0, c1, c2, c3, c4, c5]] w fun e w' => ClP d x w e w'
  | 0, _, _, _, _, _, _, _, _, _, h, _ => h.elim
  | d + 1, x, c0, c1, c2, c3, c4, c5, w0, w, h, hw => by
    obtain ⟨⟨so, sn, sc, ao, an, ac, ko, kc, ev, h1, h2, h3, h4, h5, h6⟩, hk, hn, ht⟩ := h
    injection ev with ev0 ev
    injection ev with ev1 ev
    injection ev with ev2 ev
    injection ev with ev3 ev
    injection ev with ev4 ev
    injection ev with ev5 ev
    subst ev0 ev1 ev2 ev3 ev4 ev5
    exact cloned_one d x.ks x.nd.k x.nd.n x.nd.t x.nd.sh x.nd.at' so ao ko sn sc an ac x.ks.length kc w0 w hw rfl h1 h2 h3 h4 h5 h6 ht hk hn (fun y c0 c1 c2 c3 c4 c5 V hy hV => cloned_any d y c0 c1 c2 c3 c4 c5 w0 V hy hV)
/-- A term stored into a box. -/
theorem box6_store (V : World) (g : Nat) (z0 z1 z2 z3 z4 z5 v0 v1 v2 v3 v4 v5 : Value) (T : TypeId) (h : V.heap[g]? = some (.cells #[z0, z1, z2, z3, z4, z5] T (0, 0))) :
    ((∃ u, V.cell? ⟨g, 0, none⟩ = some u) ∧ V.frozen? ⟨g, 0, none⟩ = false ∧ (∃ u, (V.setCell ⟨g, 0, none⟩ v0).cell? ⟨g, 1, none⟩ = some u) ∧ (V.setCell ⟨g, 0, none⟩ v0).frozen? ⟨g, 1, none⟩ = false ∧ (∃ u, ((V.setCell ⟨g, 0, none⟩ v0).setCell ⟨g, 1, none⟩ v1).cell? ⟨g, 2, none⟩ = some u) ∧ ((V.setCell ⟨g, 0, none⟩ v0).setCell ⟨g, 1, none⟩ v1).frozen? ⟨g, 2, none⟩ = false ∧ (∃ u, (((V.setCell ⟨g, 0, none⟩ v0).setCell ⟨g, 1, none⟩ v1).setCell ⟨g, 2, none⟩ v2).cell? ⟨g, 3, none⟩ = some u) ∧ (((V.setCell ⟨g, 0, none⟩ v0).setCell ⟨g, 1, none⟩ v1).setCell ⟨g, 2, none⟩ v2).frozen? ⟨g, 3, none⟩ = false ∧ (∃ u, ((((V.setCell ⟨g, 0, none⟩ v0).setCell ⟨g, 1, none⟩ v1).setCell ⟨g, 2, none⟩ v2).setCell ⟨g, 3, none⟩ v3).cell? ⟨g, 4, none⟩ = some u) ∧ ((((V.setCell ⟨g, 0, none⟩ v0).setCell ⟨g, 1, none⟩ v1).setCell ⟨g, 2, none⟩ v2).setCell ⟨g, 3, none⟩ v3).frozen? ⟨g, 4, none⟩ = false ∧ (∃ u, (((((V.setCell ⟨g, 0, none⟩ v0).setCell ⟨g, 1, none⟩ v1).setCell ⟨g, 2, none⟩ v2).setCell ⟨g, 3, none⟩ v3).setCell ⟨g, 4, none⟩ v4).cell? ⟨g, 5, none⟩ = some u) ∧ (((((V.setCell ⟨g, 0, none⟩ v0).setCell ⟨g, 1, none⟩ v1).setCell ⟨g, 2, none⟩ v2).setCell ⟨g, 3, none⟩ v3).setCell ⟨g, 4, none⟩ v4).frozen? ⟨g, 5, none⟩ = false) ∧ (((((((V.setCell ⟨g, 0, none⟩ v0).setCell ⟨g, 1, none⟩ v1).setCell ⟨g, 2, none⟩ v2).setCell ⟨g, 3, none⟩ v3).setCell ⟨g, 4, none⟩ v4).setCell ⟨g, 5, none⟩ v5).cell? ⟨g, 0, none⟩ = some v0 ∧ ((((((V.setCell ⟨g, 0, none⟩ v0).setCell ⟨g, 1, none⟩ v1).setCell ⟨g, 2, none⟩ v2).setCell ⟨g, 3, none⟩ v3).setCell ⟨g, 4, none⟩ v4).setCell ⟨g, 5, none⟩ v5).cell? ⟨g, 1, none⟩ = some v1 ∧ ((((((V.setCell ⟨g, 0, none⟩ v0).setCell ⟨g, 1, none⟩ v1).setCell ⟨g, 2, none⟩ v2).setCell ⟨g, 3, none⟩ v3).setCell ⟨g, 4, none⟩ v4).setCell ⟨g, 5, none⟩ v5).cell? ⟨g, 2, none⟩ = some v2 ∧ ((((((V.setCell ⟨g, 0, none⟩ v0).setCell ⟨g, 1, none⟩ v1).setCell ⟨g, 2, none⟩ v2).setCell ⟨g, 3, none⟩ v3).setCell ⟨g, 4, none⟩ v4).setCell ⟨g, 5, none⟩ v5).cell? ⟨g, 3, none⟩ = some v3 ∧ ((((((V.setCell ⟨g, 0, none⟩ v0).setCell ⟨g, 1, none⟩ v1).setCell ⟨g, 2, none⟩ v2).setCell ⟨g, 3, none⟩ v3).setCell ⟨g, 4, none⟩ v4).setCell ⟨g, 5, none⟩ v5).cell? ⟨g, 4, none⟩ = some v4 ∧ ((((((V.setCell ⟨g, 0, none⟩ v0).setCell ⟨g, 1, none⟩ v1).setCell ⟨g, 2, none⟩ v2).setCell ⟨g, 3, none⟩ v3).setCell ⟨g, 4, none⟩ v4).setCell ⟨g, 5, none⟩ v5).cell? ⟨g, 5, none⟩ = some v5) ∧ V.grownBy ((((((V.setCell ⟨g, 0, none⟩ v0).setCell ⟨g, 1, none⟩ v1).setCell ⟨g, 2, none⟩ v2).setCell ⟨g, 3, none⟩ v3).setCell ⟨g, 4, none⟩ v4).setCell ⟨g, 5, none⟩ v5) (some g) := by
  have A := W6_asks 0 v0 v1 v2 v3 v4 v5 h (by simp)
  have R := W6_row 0 v0 v1 v2 v3 v4 v5 h
  have G := W6_grown V g 0 v0 v1 v2 v3 v4 v5
  rw [set6_all] at R
  have cs := box6 R
  rw [W6_zero] at cs G
  simp only [Nat.zero_add] at A
  obtain ⟨a0, a2, a3, a5, a6, a8, a9, a11, a12, a14, a15, a17⟩ := A
  obtain ⟨c0, c1, c2, c3, c4, c5⟩ := cs
  exact ⟨⟨a0, a2, a3, a5, a6, a8, a9, a11, a12, a14, a15, a17⟩, ⟨c0, c1, c2, c3, c4, c5⟩, G⟩
/-- What Copy hands out. -/
def CpP (d : Nat) (x : Tr d) (w : World) (e : Ending) (w' : World) : Prop := ∃ v0 v1 v2 v3 v4 v5 : Value, e = .returned (.tuple #[.agg #[v0, v1, v2, v3, v4, v5], .int .i64 0]) ∧ Tw w.heap.size w' d x [v0, v1, v2, v3, v4, v5] ∧ Below w.heap.size w w'
set_option linter.unusedSimpArgs false in
set_option maxRecDepth 100000 in
set_option maxHeartbeats 4000000 in
theorem copy_ok (d : Nat) (x : Tr d) (c0 c1 c2 c3 c4 c5 : Value) (w : World) (h : Tv w d x [c0, c1, c2, c3, c4, c5]) (ho : szO d x = true) :
    Calls Tryz.prog 14 #[.agg #[c0, c1, c2, c3, c4, c5]] w fun e w' => CpP d x w e w' := by
  obtain ⟨k1, t1, n1, so, sn, sc, ao, an, ac, uo, un, uc, ev⟩ := h.form
  injection ev with ev0 ev
  injection ev with ev1 ev
  injection ev with ev2 ev
  injection ev with ev3 ev
  injection ev with ev4 ev
  injection ev with ev5 ev
  subst ev0 ev1 ev2 ev3 ev4 ev5
  have k0 := box_below w (.cells #[.int .i64 k1, .string t1, .int .i64 n1, .slice so sn sc, .slice ao an ac, .slice uo un uc] 31)
  have kb := box_below (w.alloc (.cells #[.int .i64 k1, .string t1, .int .i64 n1, .slice so sn sc, .slice ao an ac, .slice uo un uc] 31)) (.cells #[.int .i64 0, .string ⟨#[]⟩, .int .i64 0, .slice none 0 0, .slice none 0 0, .slice none 0 0] 31)
  have kk := k0.trans (kb.mono k0.size)
  have R0 := (kb.block w.heap.size (by simp)).trans (allocNew w (.cells #[.int .i64 k1, .string t1, .int .i64 n1, .slice so sn sc, .slice ao an ac, .slice uo un uc] 31))
  have R1 := allocNew (w.alloc (.cells #[.int .i64 k1, .string t1, .int .i64 n1, .slice so sn sc, .slice ao an ac, .slice uo un uc] 31)) (.cells #[.int .i64 0, .string ⟨#[]⟩, .int .i64 0, .slice none 0 0, .slice none 0 0, .slice none 0 0] 31)
  rw [World.size_alloc] at R1 kb
  obtain ⟨y0, y1, y2, y3, y4, y5⟩ := box6 R0
  have htg := tooGreat_any d x _ _ _ _ _ _ _ (Tv.below kk (Nat.le_refl _) _ _ _ h)
  rw [ho] at htg
  have hcl := fun V (b : Below w.heap.size w V) => cloned_any d x _ _ _ _ _ _ w V h b
  clear h ho k0
  go_enter Tryz.func14, Tryz.ntmps14
  go_wp2_with (first
    | (go_at_call 34; (with_reducible refine htg.mono ?_); rintro e w1 ⟨rfl, b1⟩; have bb := kk.trans (b1.mono kk.size); obtain ⟨z0, z1, z2, z3, z4, z5⟩ := box6 ((b1.block w.heap.size (by simp; omega)).trans R0); have R2 := (b1.block (w.heap.size + 1) (by simp)).trans R1)
    | (go_at_call 37; (with_reducible refine (hcl _ bb).mono ?_); rintro e w2 ⟨v0, v1, v2, v3, v4, v5, rfl, tw, b2⟩; have R3 := (b2.block (w.heap.size + 1) (Array.getElem?_eq_some_iff.1 R2).1).trans R2
       obtain ⟨k3, t3, n3, xo3, xn3, xc3, zo3, zn3, zc3, uo3, un3, uc3, ev⟩ := tw.tv.form
       injection ev with ev0 ev
       injection ev with ev1 ev
       injection ev with ev2 ev
       injection ev with ev3 ev
       injection ev with ev4 ev
       injection ev with ev5 ev
       subst ev0 ev1 ev2 ev3 ev4 ev5
       obtain ⟨⟨⟨a0, a1⟩, a2, ⟨a3, a4⟩, a5, ⟨a6, a7⟩, a8, ⟨a9, a10⟩, a11, ⟨a12, a13⟩, a14, ⟨a15, a16⟩, a17⟩, ⟨f0, f1, f2, f3, f4, f5⟩, gr⟩ := box6_store w2 (w.heap.size + 1) _ _ _ _ _ _ (.int .i64 k3) (.string t3) (.int .i64 n3) (.slice xo3 xn3 xc3) (.slice zo3 zn3 zc3) (.slice uo3 un3 uc3) _ R3
       have HG : Hid (_) := gr
       clear gr))
  (try simp only [Exit.inBlock, Exit.then])
  refine bodyPost_ret (v := .tuple #[.agg #[.int .i64 k3, .string t3, .int .i64 n3, .slice xo3 xn3 xc3, .slice zo3 zn3 zc3, .slice uo3 un3 uc3], .int .i64 0]) (by rw [results_cell_tmp rfl]; go_simp) rfl ?_
  have gr := HG.out
  have bs := (Array.getElem?_eq_some_iff.1 R2).1
  have up : Up w1.heap.size w2 _ := ⟨gr.size, fun q h1 h2 => gr.block q h2 (fun e => by injection e with e; omega)⟩
  exact ⟨_, _, _, _, _, _, rfl, ((tw.up up).mono bb.size), below_of_grown (bb.trans (b2.mono bb.size)) gr (Nat.le_succ _)⟩
set_option maxHeartbeats 4000000 in
theorem tsame_any (d : Nat) (x : Tr d) (d2 : Nat) (y : Tr d2) (c0 c1 c2 c3 c4 c5 b0 b1 b2 b3 b4 b5 : Value) (w : World) (h : Tv w d x [c0, c1, c2, c3, c4, c5]) (h2 : Tv w d2 y [b0, b1, b2, b3, b4, b5]) :
    Calls Tryz.prog 15 #[.agg #[c0, c1, c2, c3, c4, c5], .agg #[b0, b1, b2, b3, b4, b5]] w fun e w' => e = .returned (.bool (szO d x && (szO d2 y && alkB d x d2 y))) ∧ Below w.heap.size w w' := by
  obtain ⟨k1, t1, n1, so, sn, sc, ao, an, ac, uo, un, uc, ev⟩ := h.form
  injection ev with ev0 ev
  injection ev with ev1 ev
  injection ev with ev2 ev
  injection ev with ev3 ev
  injection ev with ev4 ev
  injection ev with ev5 ev
  subst ev0 ev1 ev2 ev3 ev4 ev5
  obtain ⟨k2, t2, n2, so2, sn2, sc2, ao2, an2, ac2, uo2, un2, uc2, ev⟩ := h2.form
  injection ev with ev0 ev
  injection ev with ev1 ev
  injection ev with ev2 ev
  injection ev with ev3 ev
  injection ev with ev4 ev
  injection ev with ev5 ev
  subst ev0 ev1 ev2 ev3 ev4 ev5
  have k0 := box_below w (.cells #[.int .i64 k1, .string t1, .int .i64 n1, .slice so sn sc, .slice ao an ac, .slice uo un uc] 31)
  have kb := box_below (w.alloc (.cells #[.int .i64 k1, .string t1, .int .i64 n1, .slice so sn sc, .slice ao an ac, .slice uo un uc] 31)) (.cells #[.int .i64 k2, .string t2, .int .i64 n2, .slice so2 sn2 sc2, .slice ao2 an2 ac2, .slice uo2 un2 uc2] 31)
  have kk := k0.trans (kb.mono k0.size)
  have R0 := (kb.block w.heap.size (by simp)).trans (allocNew w (.cells #[.int .i64 k1, .string t1, .int .i64 n1, .slice so sn sc, .slice ao an ac, .slice uo un uc] 31))
  have R1 := allocNew (w.alloc (.cells #[.int .i64 k1, .string t1, .int .i64 n1, .slice so sn sc, .slice ao an ac, .slice uo un uc] 31)) (.cells #[.int .i64 k2, .string t2, .int .i64 n2, .slice so2 sn2 sc2, .slice ao2 an2 ac2, .slice uo2 un2 uc2] 31)
  rw [World.size_alloc] at R1 kb
  obtain ⟨y0, y1, y2, y3, y4, y5⟩ := box6 R0
  obtain ⟨z0, z1, z2, z3, z4, z5⟩ := box6 R1
  have ht1 := tooGreat_any d x _ _ _ _ _ _ _ (Tv.below kk (Nat.le_refl _) _ _ _ h)
  have ht2 := fun V (b : Below w.heap.size w V) => tooGreat_any d2 y _ _ _ _ _ _ V (Tv.below b (Nat.le_refl _) _ _ _ h2)
  have hal := fun V (b : Below w.heap.size w V) => alike_any d d2 w x y _ _ _ _ _ _ _ _ _ _ _ _ V h h2 b
  clear h h2 k0
  generalize alkB d x d2 y = Q at *
  cases ho : szO d x
  · rw [ho] at ht1
    rw [Bool.false_and]
    clear ho
    go_enter Tryz.func15, Tryz.ntmps15
    go_wp2_with (first
      | (go_at_call 34; (with_reducible refine ht1.mono ?_); rintro e w1 ⟨rfl, e1⟩; have bb := kk.trans (e1.mono kk.size); obtain ⟨p0, p1, p2, p3, p4, p5⟩ := box6 ((e1.block w.heap.size (by simp; omega)).trans R0); obtain ⟨q0, q1, q2, q3, q4, q5⟩ := box6 ((e1.block (w.heap.size + 1) (by simp)).trans R1)))
    go_ret
    exact ⟨rfl, bb⟩
  · rw [ho] at ht1
    rw [Bool.true_and]
    clear ho
    cases hp : szO d2 y
    · rw [hp] at ht2
      rw [Bool.false_and]
      clear hp
      go_enter Tryz.func15, Tryz.ntmps15
      go_wp2_with (first
        | (go_at_call 34; (with_reducible refine (ht2 _ bb).mono ?_); rintro e w2 ⟨rfl, e2⟩; have bb2 := bb.trans (e2.mono bb.size); obtain ⟨p0, p1, p2, p3, p4, p5⟩ := box6 ((e2.block w.heap.size (by have := e1.size; simp at this; omega)).trans ((e1.block w.heap.size (by simp; omega)).trans R0)); obtain ⟨q0, q1, q2, q3, q4, q5⟩ := box6 ((e2.block (w.heap.size + 1) (by have := e1.size; simp at this; omega)).trans ((e1.block (w.heap.size + 1) (by simp)).trans R1)))
        | (go_at_call 34; (with_reducible refine ht1.mono ?_); rintro e w1 ⟨rfl, e1⟩; have bb := kk.trans (e1.mono kk.size); obtain ⟨p0, p1, p2, p3, p4, p5⟩ := box6 ((e1.block w.heap.size (by simp; omega)).trans R0); obtain ⟨q0, q1, q2, q3, q4, q5⟩ := box6 ((e1.block (w.heap.size + 1) (by simp)).trans R1)))
      go_ret
      exact ⟨rfl, bb2⟩
    · rw [hp] at ht2
      rw [Bool.true_and]
      clear hp
      go_enter Tryz.func15, Tryz.ntmps15
      go_wp2_with (first
        | (go_at_call 34; (with_reducible refine (ht2 _ bb).mono ?_); rintro e w2 ⟨rfl, e2⟩; have bb2 := bb.trans (e2.mono bb.size); obtain ⟨p0, p1, p2, p3, p4, p5⟩ := box6 ((e2.block w.heap.size (by have := e1.size; simp at this; omega)).trans ((e1.block w.heap.size (by simp; omega)).trans R0)); obtain ⟨q0, q1, q2, q3, q4, q5⟩ := box6 ((e2.block (w.heap.size + 1) (by have := e1.size; simp at this; omega)).trans ((e1.block (w.heap.size + 1) (by simp)).trans R1)))
        | (go_at_call 34; (with_reducible refine ht1.mono ?_); rintro e w1 ⟨rfl, e1⟩; have bb := kk.trans (e1.mono kk.size); obtain ⟨p0, p1, p2, p3, p4, p5⟩ := box6 ((e1.block w.heap.size (by simp; omega)).trans R0); obtain ⟨q0, q1, q2, q3, q4, q5⟩ := box6 ((e1.block (w.heap.size + 1) (by simp)).trans R1))
        | (go_at_call 38; (with_reducible refine (hal _ bb2).mono ?_); rintro e w3 ⟨rfl, e3⟩))
      go_ret
      exact ⟨rfl, (bb2.trans (e3.mono bb2.size))⟩
end Go.Proofs.YtiahilelcppfgaaGreat
