
/- Package term: May. -/

import Derived.Test.YtiahilelcppfgaaGreatTP

namespace Go.Proofs.YtiahilelcppfgaaGreat

open Go.RowKit

set_option linter.unusedVariables false

theorem Tv.rt {W : World} : ∀ {d : Nat} {x : Tr d} {k : Int} {t : ByteArray} {v : List Value}, Tv W d x (.int .i64 k :: .string t :: v) → (root d x).k = k ∧ (root d x).t = t
  | 0, _, _, _, _, h => h.elim
  | d + 1, x, k, t, v, h => by
    obtain ⟨⟨so, sn, sc, ao, an, ac, ko, kc, e, _⟩, _⟩ := h
    injection e with e0 e
    injection e with e1 e
    injection e0 with _ e0
    injection e1 with e1
    exact ⟨e0.symm, e1.symm⟩
set_option maxHeartbeats 8000000 in
theorem tmay_any (d : Nat) (x : Tr d) (c0 c1 c2 c3 c4 c5 : Value) (c : Int) (w : World) (h : Tv w d x [c0, c1, c2, c3, c4, c5]) :
    Calls Tryz.prog 12 #[.agg #[c0, c1, c2, c3, c4, c5], .int .i64 c] w fun e w' => e = .returned (.int .i64 (mayT d x c)) ∧ Below w.heap.size w w' := by
  obtain ⟨k1, t1, n1, so, sn, sc, ao, an, ac, uo, un, uc, ev⟩ := h.form
  injection ev with ev0 ev
  injection ev with ev1 ev
  injection ev with ev2 ev
  injection ev with ev3 ev
  injection ev with ev4 ev
  injection ev with ev5 ev
  subst ev0 ev1 ev2 ev3 ev4 ev5
  have k0 := box_below w (.cells #[.int .i64 k1, .string t1, .int .i64 n1, .slice so sn sc, .slice ao an ac, .slice uo un uc] 31)
  have r0 := allocNew w (.cells #[.int .i64 k1, .string t1, .int .i64 n1, .slice so sn sc, .slice ao an ac, .slice uo un uc] 31)
  obtain ⟨b0, b1, b2, b3, b4, b5⟩ := box6 r0
  have htg := tooGreat_any d x _ _ _ _ _ _ _ (Tv.below k0 (Nat.le_refl _) _ _ _ h)
  have haf0 := fun (V : World) (b : Below (w.alloc (.cells #[.int .i64 k1, .string t1, .int .i64 n1, .slice so sn sc, .slice ao an ac, .slice uo un uc] 31)).heap.size (w.alloc (.cells #[.int .i64 k1, .string t1, .int .i64 n1, .slice so sn sc, .slice ao an ac, .slice uo un uc] 31)) V) (hn : nds d x < 1000000) => allFit_any d x _ _ _ _ _ _ V (Tv.below (k0.trans (b.mono k0.size)) (Nat.le_refl _) _ _ _ h) hn
  have hcl := fun W => class_any k1 n1 t1 (.slice so sn sc) (.slice ao an ac) (.slice uo un uc) W
  have er : (root d x).k = k1 := (h.rt).1
  have hM : mayT d x c = if c ≠ 1 ∧ c ≠ 2 ∧ c ≠ 3 then 1 else if szO d x = false then 2 else if fitB d x true = false then 33 else if clsN k1 ≠ c then 5 else 0 := by rw [← er]; exact rfl
  rw [hM]
  clear hM er h
  have hO : szO d x = true → nds d x < 1000000 := fun e => by
    unfold szO at e
    have := of_decide_eq_true e
    omega
  generalize clsN k1 = K at *
  by_cases g1 : c = 1
  · subst g1
    rw [if_neg (by omega)]
    cases hB : szO d x
    · rw [hB] at htg
      rw [if_pos rfl]
      clear hB haf0 hO
      go_enter Tryz.func12, Tryz.ntmps12
      go_wp2_with (first
        | (go_at_call 34; (with_reducible refine htg.mono ?_); rintro e w1 ⟨rfl, bb1⟩; obtain ⟨r10, r11, r12, r13, r14, r15⟩ := box6 ((bb1.block w.heap.size (by simp)).trans r0)))
      go_ret
      exact ⟨rfl, k0.trans (bb1.mono k0.size)⟩
    · have haf := fun V b => haf0 V b (hO hB)
      rw [hB] at htg
      rw [if_neg (by simp)]
      clear hB haf0 hO
      cases hF : fitB d x true
      · rw [hF] at haf
        rw [if_pos rfl]
        clear hF
        go_enter Tryz.func12, Tryz.ntmps12
        go_wp2_with (first
          | (go_at_call 34; (with_reducible refine htg.mono ?_); rintro e w1 ⟨rfl, bb1⟩; obtain ⟨r10, r11, r12, r13, r14, r15⟩ := box6 ((bb1.block w.heap.size (by simp)).trans r0))
          | (go_at_call 35; (with_reducible refine (haf _ bb1).mono ?_); rintro e w2 ⟨rfl, b2⟩; have bb2 := bb1.trans (b2.mono bb1.size); obtain ⟨r20, r21, r22, r23, r24, r25⟩ := box6 ((bb2.block w.heap.size (by simp)).trans r0)))
        go_ret
        exact ⟨rfl, k0.trans (bb2.mono k0.size)⟩
      · rw [hF] at haf
        rw [if_neg (by simp)]
        clear hF
        by_cases hK : K = 1
        · have eK : (K == 1) = true := by simp [hK]
          rw [if_neg (by simp [hK])]
          clear hK
          go_enter Tryz.func12, Tryz.ntmps12
          go_wp2_with (first
            | (go_at_call 34; (with_reducible refine htg.mono ?_); rintro e w1 ⟨rfl, bb1⟩; obtain ⟨r10, r11, r12, r13, r14, r15⟩ := box6 ((bb1.block w.heap.size (by simp)).trans r0))
            | (go_at_call 35; (with_reducible refine (haf _ bb1).mono ?_); rintro e w2 ⟨rfl, b2⟩; have bb2 := bb1.trans (b2.mono bb1.size); obtain ⟨r20, r21, r22, r23, r24, r25⟩ := box6 ((bb2.block w.heap.size (by simp)).trans r0))
            | (go_at_call 11; (with_reducible refine (hcl _).mono ?_); rintro e w3 ⟨rfl, b3⟩; have bb3 := bb2.trans (b3.mono bb2.size)))
          go_ret
          exact ⟨rfl, k0.trans (bb3.mono k0.size)⟩
        · have eK : (K == 1) = false := by simp [hK]
          rw [if_pos hK]
          clear hK
          go_enter Tryz.func12, Tryz.ntmps12
          go_wp2_with (first
            | (go_at_call 34; (with_reducible refine htg.mono ?_); rintro e w1 ⟨rfl, bb1⟩; obtain ⟨r10, r11, r12, r13, r14, r15⟩ := box6 ((bb1.block w.heap.size (by simp)).trans r0))
            | (go_at_call 35; (with_reducible refine (haf _ bb1).mono ?_); rintro e w2 ⟨rfl, b2⟩; have bb2 := bb1.trans (b2.mono bb1.size); obtain ⟨r20, r21, r22, r23, r24, r25⟩ := box6 ((bb2.block w.heap.size (by simp)).trans r0))
            | (go_at_call 11; (with_reducible refine (hcl _).mono ?_); rintro e w3 ⟨rfl, b3⟩; have bb3 := bb2.trans (b3.mono bb2.size)))
          go_ret
          exact ⟨rfl, k0.trans (bb3.mono k0.size)⟩
  have e1 : (c == 1) = false := by simp [g1]
  have f1 : (c != 1) = true := by simp [g1]
  by_cases g2 : c = 2
  · subst g2
    rw [if_neg (by omega)]
    cases hB : szO d x
    · rw [hB] at htg
      rw [if_pos rfl]
      clear hB haf0 hO
      go_enter Tryz.func12, Tryz.ntmps12
      go_wp2_with (first
        | (go_at_call 34; (with_reducible refine htg.mono ?_); rintro e w1 ⟨rfl, bb1⟩; obtain ⟨r10, r11, r12, r13, r14, r15⟩ := box6 ((bb1.block w.heap.size (by simp)).trans r0)))
      go_ret
      exact ⟨rfl, k0.trans (bb1.mono k0.size)⟩
    · have haf := fun V b => haf0 V b (hO hB)
      rw [hB] at htg
      rw [if_neg (by simp)]
      clear hB haf0 hO
      cases hF : fitB d x true
      · rw [hF] at haf
        rw [if_pos rfl]
        clear hF
        go_enter Tryz.func12, Tryz.ntmps12
        go_wp2_with (first
          | (go_at_call 34; (with_reducible refine htg.mono ?_); rintro e w1 ⟨rfl, bb1⟩; obtain ⟨r10, r11, r12, r13, r14, r15⟩ := box6 ((bb1.block w.heap.size (by simp)).trans r0))
          | (go_at_call 35; (with_reducible refine (haf _ bb1).mono ?_); rintro e w2 ⟨rfl, b2⟩; have bb2 := bb1.trans (b2.mono bb1.size); obtain ⟨r20, r21, r22, r23, r24, r25⟩ := box6 ((bb2.block w.heap.size (by simp)).trans r0)))
        go_ret
        exact ⟨rfl, k0.trans (bb2.mono k0.size)⟩
      · rw [hF] at haf
        rw [if_neg (by simp)]
        clear hF
        by_cases hK : K = 2
        · have eK : (K == 2) = true := by simp [hK]
          rw [if_neg (by simp [hK])]
          clear hK
          go_enter Tryz.func12, Tryz.ntmps12
          go_wp2_with (first
            | (go_at_call 34; (with_reducible refine htg.mono ?_); rintro e w1 ⟨rfl, bb1⟩; obtain ⟨r10, r11, r12, r13, r14, r15⟩ := box6 ((bb1.block w.heap.size (by simp)).trans r0))
            | (go_at_call 35; (with_reducible refine (haf _ bb1).mono ?_); rintro e w2 ⟨rfl, b2⟩; have bb2 := bb1.trans (b2.mono bb1.size); obtain ⟨r20, r21, r22, r23, r24, r25⟩ := box6 ((bb2.block w.heap.size (by simp)).trans r0))
            | (go_at_call 11; (with_reducible refine (hcl _).mono ?_); rintro e w3 ⟨rfl, b3⟩; have bb3 := bb2.trans (b3.mono bb2.size)))
          go_ret
          exact ⟨rfl, k0.trans (bb3.mono k0.size)⟩
        · have eK : (K == 2) = false := by simp [hK]
          rw [if_pos hK]
          clear hK
          go_enter Tryz.func12, Tryz.ntmps12
          go_wp2_with (first
            | (go_at_call 34; (with_reducible refine htg.mono ?_); rintro e w1 ⟨rfl, bb1⟩; obtain ⟨r10, r11, r12, r13, r14, r15⟩ := box6 ((bb1.block w.heap.size (by simp)).trans r0))
            | (go_at_call 35; (with_reducible refine (haf _ bb1).mono ?_); rintro e w2 ⟨rfl, b2⟩; have bb2 := bb1.trans (b2.mono bb1.size); obtain ⟨r20, r21, r22, r23, r24, r25⟩ := box6 ((bb2.block w.heap.size (by simp)).trans r0))
            | (go_at_call 11; (with_reducible refine (hcl _).mono ?_); rintro e w3 ⟨rfl, b3⟩; have bb3 := bb2.trans (b3.mono bb2.size)))
          go_ret
          exact ⟨rfl, k0.trans (bb3.mono k0.size)⟩
  have e2 : (c == 2) = false := by simp [g2]
  have f2 : (c != 2) = true := by simp [g2]
  by_cases g3 : c = 3
  · subst g3
    rw [if_neg (by omega)]
    cases hB : szO d x
    · rw [hB] at htg
      rw [if_pos rfl]
      clear hB haf0 hO
      go_enter Tryz.func12, Tryz.ntmps12
      go_wp2_with (first
        | (go_at_call 34; (with_reducible refine htg.mono ?_); rintro e w1 ⟨rfl, bb1⟩; obtain ⟨r10, r11, r12, r13, r14, r15⟩ := box6 ((bb1.block w.heap.size (by simp)).trans r0)))
      go_ret
      exact ⟨rfl, k0.trans (bb1.mono k0.size)⟩
    · have haf := fun V b => haf0 V b (hO hB)
      rw [hB] at htg
      rw [if_neg (by simp)]
      clear hB haf0 hO
      cases hF : fitB d x true
      · rw [hF] at haf
        rw [if_pos rfl]
        clear hF
        go_enter Tryz.func12, Tryz.ntmps12
        go_wp2_with (first
          | (go_at_call 34; (with_reducible refine htg.mono ?_); rintro e w1 ⟨rfl, bb1⟩; obtain ⟨r10, r11, r12, r13, r14, r15⟩ := box6 ((bb1.block w.heap.size (by simp)).trans r0))
          | (go_at_call 35; (with_reducible refine (haf _ bb1).mono ?_); rintro e w2 ⟨rfl, b2⟩; have bb2 := bb1.trans (b2.mono bb1.size); obtain ⟨r20, r21, r22, r23, r24, r25⟩ := box6 ((bb2.block w.heap.size (by simp)).trans r0)))
        go_ret
        exact ⟨rfl, k0.trans (bb2.mono k0.size)⟩
      · rw [hF] at haf
        rw [if_neg (by simp)]
        clear hF
        by_cases hK : K = 3
        · have eK : (K == 3) = true := by simp [hK]
          rw [if_neg (by simp [hK])]
          clear hK
          go_enter Tryz.func12, Tryz.ntmps12
          go_wp2_with (first
            | (go_at_call 34; (with_reducible refine htg.mono ?_); rintro e w1 ⟨rfl, bb1⟩; obtain ⟨r10, r11, r12, r13, r14, r15⟩ := box6 ((bb1.block w.heap.size (by simp)).trans r0))
            | (go_at_call 35; (with_reducible refine (haf _ bb1).mono ?_); rintro e w2 ⟨rfl, b2⟩; have bb2 := bb1.trans (b2.mono bb1.size); obtain ⟨r20, r21, r22, r23, r24, r25⟩ := box6 ((bb2.block w.heap.size (by simp)).trans r0))
            | (go_at_call 11; (with_reducible refine (hcl _).mono ?_); rintro e w3 ⟨rfl, b3⟩; have bb3 := bb2.trans (b3.mono bb2.size)))
          go_ret
          exact ⟨rfl, k0.trans (bb3.mono k0.size)⟩
        · have eK : (K == 3) = false := by simp [hK]
          rw [if_pos hK]
          clear hK
          go_enter Tryz.func12, Tryz.ntmps12
          go_wp2_with (first
            | (go_at_call 34; (with_reducible refine htg.mono ?_); rintro e w1 ⟨rfl, bb1⟩; obtain ⟨r10, r11, r12, r13, r14, r15⟩ := box6 ((bb1.block w.heap.size (by simp)).trans r0))
            | (go_at_call 35; (with_reducible refine (haf _ bb1).mono ?_); rintro e w2 ⟨rfl, b2⟩; have bb2 := bb1.trans (b2.mono bb1.size); obtain ⟨r20, r21, r22, r23, r24, r25⟩ := box6 ((bb2.block w.heap.size (by simp)).trans r0))
            | (go_at_call 11; (with_reducible refine (hcl _).mono ?_); rintro e w3 ⟨rfl, b3⟩; have bb3 := bb2.trans (b3.mono bb2.size)))
          go_ret
          exact ⟨rfl, k0.trans (bb3.mono k0.size)⟩
  have e3 : (c == 3) = false := by simp [g3]
  have f3 : (c != 3) = true := by simp [g3]
  rw [if_pos ⟨g1, g2, g3⟩]
  clear g1 g2 g3 haf0 hO
  go_enter Tryz.func12, Tryz.ntmps12
  go_wp2
  go_ret
  exact ⟨rfl, k0⟩
end Go.Proofs.YtiahilelcppfgaaGreat
