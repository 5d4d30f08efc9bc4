
/- The statement CellParts, walked: an array that may not be. -/

import Derived.Test.YtjllmfahmlfljaaQA
import Derived.Test.YtjllmfahmlfljaaG2


namespace Go.Proofs.Ytjllmfahmlfljaa

open Go.RowKit Go.Deep

set_option linter.unusedVariables false

/-- The array in its box. -/
structure Py (w V : World) (so : Option Addr) (sn sc : Nat) (ao : Option Addr) (an ac : Nat) (sh at' : List Int) : Prop where
  c0 : V.cell? ⟨w.heap.size, 0, none⟩ = some (.slice so sn sc)
  c1 : V.cell? ⟨w.heap.size, 1, none⟩ = some (.slice ao an ac)
  s : Rd V so sn sh
  a : Rd V ao an at'
  bel : Below w.heap.size w V
theorem Py.below {w V : World} {so : Option Addr} {sn sc : Nat} {ao : Option Addr} {an ac : Nat} {sh at' : List Int} {V' : World} (h : Py w V so sn sc ao an ac sh at') (k : Below V.heap.size V V') : Py w V' so sn sc ao an ac sh at' :=
  ⟨cellB k h.c0 (Nat.le_refl _), cellB k h.c1 (Nat.le_refl _), h.s.below k (Nat.le_refl _), h.a.below k (Nat.le_refl _), btw h.bel k h.bel.size⟩

set_option maxHeartbeats 8000000 in
set_option maxRecDepth 20000 in
theorem parts_may (so ao : Option Addr) (sn sc an ac : Nat) (sh at' : List Int) (f n lg : Int) (w : World) (h : Rd w so sn sh) (hs : Sl so sn sc) (g : Rd w ao an at') (gs : Sl ao an ac) (f1 : -9223372036854775808 ≤ f) (f2 : f ≤ 9223372036854775807) (n1 : -9223372036854775808 ≤ n) (n2 : n ≤ 9223372036854775807) (l1 : -9223372036854775808 ≤ lg) (l2 : lg ≤ 9223372036854775807) (h0 : mayA sh at' ≠ 0) :
    Calls Try.prog 5 #[.agg #[.slice so sn sc, .slice ao an ac], .int .i64 f, .int .i64 n, .int .i64 lg] w fun e w' => e = .returned (.bool true) ∧ Below w.heap.size w w' := by
  have I0 : Py w (w.alloc (.cells #[.slice so sn sc, .slice ao an ac] 25)) so sn sc ao an ac sh at' := ⟨(bx_new h g).c0, (bx_new h g).c1, (bx_new h g).s, (bx_new h g).a, box_below w _⟩
  have hroom := h.room
  have hq := fun W a n c => nilS tyI W a n c
  go_enter Try.func5, Try.ntmps5
  go_upto_if 34 with (first
    | (go_at_call 9; refine (begun4_any _).mono ?_; rintro e W1 ⟨rfl, k1⟩; have I1 := I0.below k1; have I1' := I1; obtain ⟨p0, p1, _, _, _⟩ := I1')
    | (at_builtin; refine wpList_joinT tyI rfl _ _ rfl W1.heap.size none so 0 0 sn sc [] sh rfl rfl (Ft.nil _ _ _) I1.s hs (by omega) (Nat.le_refl _) ?_; intro co cc V2 F2 k2; rw [Nat.zero_add, List.nil_append] at F2; have I2 := I1.below k2))
  go_cut [9] (fun s9 V => ∃ o c, s9 = .slice o (sOf sh).length c ∧ Ft 3 V w.heap.size o (sOf sh).length c (sOf sh) ∧ Py w V so sn sc ao an ac sh at')
  case first =>
    have len := h.len
    by_cases z : sn = 0
    · subst z
      have es : sOf sh = [1] := by unfold sOf; rw [if_pos len]
      have e0 : sh = [] := List.eq_nil_of_length_eq_zero len
      subst e0
      have fl := ft_new 3 V2 [1] (by simp) (by decide)
      have Fb := F2.below (box_below V2 (.cells #[.int .i64 1] 3)) (Nat.le_refl _)
      have k2s := k2.size
      go_wp2_with (at_builtin; refine wpList_joinT tyI rfl _ _ rfl W1.heap.size co (some ⟨V2.heap.size, 0, none⟩) 0 cc 1 1 [] [1] rfl rfl Fb fl.rd fl.sl (by omega) (by simp; omega) ?_; intro co3 cc3 V3 F3 k3; rw [Nat.zero_add, List.nil_append] at F3)
      go_meet
      case rel => exact ⟨co3, cc3, rfl, F3.mono I1.bel.size, I1.below ((k2.trans ((box_below V2 (.cells #[.int .i64 1] 3)).mono k2s)).trans k3)⟩
    · have es : sOf sh = sh := by unfold sOf; rw [if_neg (by omega)]
      have z3 : ((sn : Int) == 0) = false := by simp; omega
      go_wp2
      go_meet
      case rel =>
        rw [es, len]
        exact ⟨co, cc, rfl, F2.mono I1.bel.size, I2⟩
  case rest =>
    obtain ⟨so9, sc9, rfl, F9, I9⟩ := hcut
    have L9 : Hid ((sOf sh).length = (sh.drop 1).length + 1) := sOf_len sh
    have l9 : 0 < (sOf sh).length := by rw [sOf_len]; omega
    obtain ⟨gb, goff, rfl, hgb, hgc⟩ := F9.rd.cells l9
    have c9 := hgc 0 l9
    rw [Nat.add_zero, show nth (sOf sh) 0 = tal sh by rw [sOf_cons]; rfl] at c9
    clear hgc I0 hq
    have hp := fun V (x : Rd V so sn sh) (y : Rd V ao an at') (f n : Int) => part_may so ao sn sc an ac sh at' f n V x y h0
    have hz := fun W (x : Rd W so sn sh) => size_any so sn sc sh W x
    have HL : Hid (at'.length = an) := g.len
    have ga := g.room
    have key : ∀ (P : Prop), (∀ (f n : Int), sizeF sh = n → mayF sh = f → (f != 0) = true → P) → ((mayF sh = 0) → (sizeF sh != (an : Int)) = true → P) → P := fun P p1 p2 => by
      rcases mayA_why h0 with c | ⟨c, d⟩
      · exact p1 _ _ rfl rfl (by simpa using c)
      · exact p2 c (by rw [← HL.out]; simpa using d)
    have I9' := I9
    obtain ⟨q0, q1, _, _, _⟩ := I9'
    generalize tal sh = tt at *
    apply key
    · intro f' n' e1 e2 t1
      rw [e1, e2] at hz
      clear key h0 e1 e2
      go_wp2_with (first
        | (go_at_call 21; refine (hp _ I9.s I9.a _ _).mono ?_; rintro e W3 ⟨rfl, k3⟩; have I3 := (I9.below k3).below (box_below W3 (.cells #[.slice none 0 0, .slice none 0 0] 25)); have I3' := I3; obtain ⟨r0, r1, _, _, _⟩ := I3')
        | (go_at_call 11; refine (hz _ I3.s).mono ?_; rintro e W4 ⟨rfl, hw⟩; rw [hw]; clear hw W4))
      go_ret
      exact ⟨rfl, I3.bel⟩
    · intro e1 t2
      rw [e1] at hz
      generalize sizeF sh = n' at *
      clear key h0 e1
      go_wp2_with (first
        | (go_at_call 21; refine (hp _ I9.s I9.a _ _).mono ?_; rintro e W3 ⟨rfl, k3⟩; have I3 := (I9.below k3).below (box_below W3 (.cells #[.slice none 0 0, .slice none 0 0] 25)); have I3' := I3; obtain ⟨r0, r1, _, _, _⟩ := I3')
        | (go_at_call 11; refine (hz _ I3.s).mono ?_; rintro e W4 ⟨rfl, hw⟩; rw [hw]; clear hw W4))
      go_ret
      exact ⟨rfl, I3.bel⟩
end Go.Proofs.Ytjllmfahmlfljaa
