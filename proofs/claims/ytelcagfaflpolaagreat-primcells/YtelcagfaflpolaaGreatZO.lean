
/- Contracts: what the statements of layer 8 hand in, and the calls that each asks ahead. -/

import Derived.Test.YtelcagfaflpolaaGreatZNd

namespace Go.Proofs.YtelcagfaflpolaaGreat

open Go.RowKit

set_option linter.unusedVariables false

set_option maxHeartbeats 1000000 in
theorem fromBinary_any (uo bo : Option Addr) (un uc bn bc : Nat) (sy ay : List Int) (w : World) (hy : Rd w uo un sy) (gy : Rd w bo bn ay) (gsy : Sl bo bn bc) (my : mayA sy ay = 0) :
    Calls Tryz.prog 146 #[.agg #[.slice uo un uc, .slice bo bn bc]] w fun e w' => AnsZ w (fun S A => S = [] ∧ A = fbA (fbR (takL [] [2] ay.length) (takL sy ay 1) (fbN [] sy [2] ay))) (fbE (fbR (takL [] [2] ay.length) (takL sy ay 1) (fbN [] sy [2] ay))) e w' := by
  have U0 := un_startZ w uo un uc bo bn bc
  have s0 := U0.sz
  obtain ⟨x0, x1, _, _⟩ := box2 U0.x
  have al : ∀ V, UnZ w V uo un uc bo bn bc → V.cell? ⟨w.heap.size, 0, none⟩ = some (.slice uo un uc) ∧ V.cell? ⟨w.heap.size, 1, none⟩ = some (.slice bo bn bc) := fun V D => ⟨(box2 D.x).1, (box2 D.x).2.1⟩
  have U1 : UnZ w ((w.alloc (.cells #[.slice uo un uc, .slice bo bn bc] 36)).alloc (.cells #[.slice none 0 0, .slice none 0 0] 36)).drew uo un uc bo bn bc := U0.below (B := w.heap.size + 2) (Below.refl _ _).drew (Nat.le_refl _)
  have cF := fun V (D : UnZ w V uo un uc bo bn bc) o c (f : Rd V o 1 [2]) (g : Sl o 1 c) => fromBase_any none o uo bo 0 0 1 c un uc bn bc [] [2] sy ay V (Rd.nil V) f g (hy.below D.bel (Nat.le_refl _)) (gy.below D.bel (Nat.le_refl _)) gsy (by decide) my (.inl rfl)
  have cS := fun V => scalar_any 2 V (by omega) (by omega)
  simp only [show ([2] : List Int).length = 1 from rfl] at cF
  generalize fbR (takL [] [2] ay.length) (takL sy ay 1) (fbN [] sy [2] ay) = FB at *
  generalize hE : fbE FB = E at *
  generalize hA : fbA FB = A0 at *
  clear hE hA
  go_enter Tryz.func146, Tryz.ntmps146
  go_wp2
  go_region_held3 (fun V => V.cell? ⟨w.heap.size, 0, none⟩ = some (.slice uo un uc) ∧ V.cell? ⟨w.heap.size, 1, none⟩ = some (.slice bo bn bc)) (first | exact al _ U1 | exact al _ U2 | exact al _ U3 | exact S6)
    (first
      | (go_at_call 180; (with_reducible refine (cS _).mono ?_); rintro e w2 ⟨o2, c2, rfl, f2, k2⟩; have U2 := U1.below k2 U1.sz; have s2 := U2.sz)
      | (go_at_call 147; (with_reducible refine (cF _ U2 _ _ f2.rd f2.sl).mono ?_); rintro e w4 ⟨o1, n1, c1, o3, n3, c3, S, A, rfl, F1, F2, hΦ, b4⟩; have U3 := U2.below b4 s2; have s3 := U3.sz; obtain ⟨r0, r1, r2, r3⟩ := box2 U3.r; have kk := set2 w4 (w.heap.size + 1) 0 1 (.slice o1 n1 c1) (.slice o3 n3 c3); have xx := box2 ((kk.block w.heap.size (by omega) (fun e => by injection e with e; omega)).trans U3.x); have S6 : _ ∧ _ := ⟨xx.1, xx.2.1⟩))
  go_wp2
  (try simp only [Exit.inBlock, Exit.then])
  refine bodyPost_ret (v := .tuple #[.agg #[.slice o1 n1 c1, .slice o3 n3 c3], .int .i64 E]) (by rw [results_cell_tmp rfl]; go_simp) rfl ?_
  exact ⟨o1, n1, c1, o3, n3, c3, S, A, rfl, (ft_setZ F1 (by omega) _ _).mono (by omega), (ft_setZ F2 (by omega) _ _).mono (by omega), hΦ, below_set2 _ _ _ _ U3.bel (by omega) (Nat.le_refl _)⟩

end Go.Proofs.YtelcagfaflpolaaGreat
