
/- Package term: allFit, May. -/

import Derived.Test.YtiahilelcppfgaaGreatTO

import Derived.Laws.EntriesVeiled

namespace Go.Proofs.YtiahilelcppfgaaGreat

open Go.RowKit Go.Maps

set_option linter.unusedVariables false

theorem fits_any : ∀ (d : Nat) (h : Bool) (y : Tr d) (c0 c1 c2 c3 c4 c5 : Value) (w0 W : World) (pI pF pm g m : Nat), Tv w0 d y [c0, c1, c2, c3, c4, c5] → Fi w0 W pI pF pm g m → m + nds d y < 1000000 → w0.heap.size ≤ pI → w0.heap.size ≤ pF → Calls Tryz.prog 55 #[.agg #[c0, c1, c2, c3, c4, c5], .bool h, .pointer (some ⟨pI, 0, none⟩), .pointer (some ⟨pF, 0, none⟩)] W fun e w' => FiP (fitB d y h) pm g (m + nds d y) W e w'
  | 0, _, _, _, _, _, _, _, _, _, _, _, _, _, _, _, h, _, _, _, _ => h.elim
  | d + 1, hx, y, c0, c1, c2, c3, c4, c5, w0, W, pI, pF, pm, g, m, h, hF, hm, i1, i2 => by
    obtain ⟨⟨so, sn, sc, ao, an, ac, ko, kc, ev, h1, h2, h3, h4, h5, h6⟩, _, _, ht⟩ := h
    injection ev with ev0 ev
    injection ev with ev1 ev
    injection ev with ev2 ev
    injection ev with ev3 ev
    injection ev with ev4 ev
    injection ev with ev5 ev
    subst ev0 ev1 ev2 ev3 ev4 ev5
    exact fits_one d y so ao ko sn sc an ac _ kc _ _ _ rfl rfl rfl rfl hx w0 W pI pF pm g m hF h1 h3 h5 ht hm ⟨i1, i2⟩ (fun hx z c0 c1 c2 c3 c4 c5 V m hz hC hm => fits_any d hx z c0 c1 c2 c3 c4 c5 w0 V pI pF pm g m hz hC hm i1 i2)
set_option maxHeartbeats 2000000 in
theorem primitives_any (w : World) : Calls Tryz.prog 54 #[] w fun e w' => e = .returned (cloP (w.heap.size + 1)) ∧ Fm w' (w.heap.size + 1) w.heap.size 0 ∧ Below w.heap.size w w' := by
  have o0 : (w.alloc (.map #[] 0)).ownsMap Tryz.prog 9 (plainElem Tryz.prog 3) w.heap.size 0 (.map [] : DataW Unit) := World.ownsMap_made w _ _ _
  have k0 := box_below w (.map #[] 0)
  have k1 := box_below (w.alloc (.map #[] 0)) (.cells #[.map (some w.heap.size)] 95)
  have N1 := Boxed.new (w.alloc (.map #[] 0)) 95 (.map (some w.heap.size))
  rw [World.size_alloc] at N1
  have hmm : ∀ W : World, (Instr.makeMap 95 none).run Tryz.prog W = .ok (.map (some W.heap.size)) (W.alloc (.map #[] 0)) := fun W => by kernel_rfl
  go_enter Tryz.func54, Tryz.ntmps54
  go_wp2
  go_ret
  refine ⟨rfl, ⟨N1.cell, by omega, by omega, (.map [] : DataW Unit), ownsMap_below o0 k1 (by simp), isMap_empty, fun l h => by simp [has_eq] at h⟩, k0.trans (k1.mono k0.size)⟩
set_option maxHeartbeats 4000000 in
theorem allFit_any (d : Nat) (x : Tr d) (c0 c1 c2 c3 c4 c5 : Value) (w : World) (h : Tv w d x [c0, c1, c2, c3, c4, c5]) (hn : nds d x < 1000000) :
    Calls Tryz.prog 35 #[.agg #[c0, c1, c2, c3, c4, c5]] w fun e w' => e = .returned (.bool (fitB d x true)) ∧ Below w.heap.size w w' := by
  have hft := fun (W : World) (pI pF pm g : Nat) (F : Fi w W pI pF pm g 0) (i1 : w.heap.size ≤ pI) (i2 : w.heap.size ≤ pF) => fits_any d true x c0 c1 c2 c3 c4 c5 w W pI pF pm g 0 h F (by omega) i1 i2
  obtain ⟨k1, t1, n1, so, sn, sc, ao, an, ac, uo, un, uc, ev⟩ := h.form
  injection ev with ev0 ev
  injection ev with ev1 ev
  injection ev with ev2 ev
  injection ev with ev3 ev
  injection ev with ev4 ev
  injection ev with ev5 ev
  subst ev0 ev1 ev2 ev3 ev4 ev5
  have k0 := box_below w (.cells #[.int .i64 k1, .string t1, .int .i64 n1, .slice so sn sc, .slice ao an ac, .slice uo un uc] 31)
  have r0 := allocNew w (.cells #[.int .i64 k1, .string t1, .int .i64 n1, .slice so sn sc, .slice ao an ac, .slice uo un uc] 31)
  have hpr := primitives_any (w.alloc (.cells #[.int .i64 k1, .string t1, .int .i64 n1, .slice so sn sc, .slice ao an ac, .slice uo un uc] 31))
  rw [World.size_alloc] at hpr
  generalize fitB d x true = B at *
  have hfc : ∀ w1 : World, Fm w1 (w.heap.size + 1 + 1) (w.heap.size + 1) 0 → Below (w.heap.size + 1) (w.alloc (.cells #[.int .i64 k1, .string t1, .int .i64 n1, .slice so sn sc, .slice ao an ac, .slice uo un uc] 31)) w1 → Fi w ((w1.alloc (.cells #[cloP (w.heap.size + 1 + 1)] 80)).alloc (.cells #[cloF w1.heap.size (w1.heap.size + 1)] 82)) w1.heap.size (w1.heap.size + 1) (w.heap.size + 1 + 1) (w.heap.size + 1) 0 ∧ ((w1.alloc (.cells #[cloP (w.heap.size + 1 + 1)] 80)).alloc (.cells #[cloF w1.heap.size (w1.heap.size + 1)] 82)).heap[w.heap.size]? = some (.cells #[.int .i64 k1, .string t1, .int .i64 n1, .slice so sn sc, .slice ao an ac, .slice uo un uc] 31 (0, 0)) ∧ Below w.heap.size w ((w1.alloc (.cells #[cloP (w.heap.size + 1 + 1)] 80)).alloc (.cells #[cloF w1.heap.size (w1.heap.size + 1)] 82)) := fun w1 f1 b1 => by
    have lg := f1.lt
    have hs := b1.size
    simp only [World.size_alloc] at hs
    have kI := box_below w1 (.cells #[cloP (w.heap.size + 1 + 1)] 80)
    have kF := box_below (w1.alloc (.cells #[cloP (w.heap.size + 1 + 1)] 80)) (.cells #[cloF w1.heap.size (w1.heap.size + 1)] 82)
    have NI := Boxed.new w1 80 (cloP (w.heap.size + 1 + 1))
    have NF := Boxed.new (w1.alloc (.cells #[cloP (w.heap.size + 1 + 1)] 80)) 82 (cloF w1.heap.size (w1.heap.size + 1))
    rw [World.size_alloc] at NF kF
    have bb : Below w.heap.size w ((w1.alloc (.cells #[cloP (w.heap.size + 1 + 1)] 80)).alloc (.cells #[cloF w1.heap.size (w1.heap.size + 1)] 82)) := k0.trans ((b1.trans ((kI.trans (kF.mono (by omega))).mono (by omega))).mono (by omega))
    refine ⟨⟨bb, by omega, (kF.cell (p := ⟨w1.heap.size, 0, none⟩) (by simp)).trans NI.cell, NF.cell, by omega, by omega, (f1.below kI (Nat.le_refl _)).below kF (by simp)⟩, ?_, bb⟩
    rw [kF.block w.heap.size (by omega), kI.block w.heap.size (by omega), b1.block w.heap.size (by omega)]
    exact r0
  unfold cloP at hpr hfc
  unfold cloF at hfc
  go_enter Tryz.func35, Tryz.ntmps35
  go_wp2_with (first
    | (go_at_call 54; (with_reducible refine hpr.mono ?_); rintro e w1 ⟨rfl, f1, b1⟩
       have lg := f1.lt
       obtain ⟨F1, r1, b3⟩ := hfc w1 f1 b1
       obtain ⟨q0, q1, q2, q3, q4, q5⟩ := box6 r1
       have qF := F1.cF
       unfold cloF at qF
       have hs := b3.size
       simp only [World.size_alloc] at hs
       have hcl := hft _ w1.heap.size (w1.heap.size + 1) _ _ F1 (by omega) (by omega))
    | (go_at_call 55; (with_reducible refine hcl.mono ?_); rintro e w5 ⟨rfl, m5, _⟩))
  go_ret
  exact ⟨rfl, m5.below b3 (fun k e => by omega) (Nat.le_refl _)⟩
/-- What May answers. -/
def mayT (d : Nat) (x : Tr d) (c : Int) : Int :=
  if c ≠ 1 ∧ c ≠ 2 ∧ c ≠ 3 then 1 else if szO d x = false then 2 else if fitB d x true = false then 33 else if clsN (root d x).k ≠ c then 5 else 0
end Go.Proofs.YtiahilelcppfgaaGreat
