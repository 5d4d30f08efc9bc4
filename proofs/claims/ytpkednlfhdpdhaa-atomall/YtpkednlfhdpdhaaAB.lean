
/- abacusref5.Bad, of one array and of two. -/

import Derived.Test.YtpkednlfhdpdhaaT1

import Derived.Test.YtpkednlfhdpdhaaR1

namespace Go.Proofs.Ytpkednlfhdpdhaa

open Go.RowKit

set_option linter.unusedVariables false

def rowB (op : Int) : Bool := decide (1 ≤ op) && decide (op ≤ 21)
theorem rrow_any (op : Int) (w : World) : Calls Try.prog 56 #[.int .i64 op] w fun e w' => e = .returned (.bool (rowB op)) ∧ w' = w := by
  by_cases h : 1 ≤ op
  · have t1 : decide (1 ≤ op) = true := decide_eq_true h
    by_cases h2 : op ≤ 21
    · have t2 : decide (op ≤ 21) = true := decide_eq_true h2
      have HB : Hid (rowB op = true) := by show _ = _; unfold rowB; rw [t1, t2]; rfl
      go_enter Try.func56, Try.ntmps56
      go_wp2
      go_ret
      exact ⟨by rw [HB.out]; rfl, rfl⟩
    · have t2 : decide (op ≤ 21) = false := decide_eq_false h2
      have HB : Hid (rowB op = false) := by show _ = _; unfold rowB; rw [t1, t2]; rfl
      go_enter Try.func56, Try.ntmps56
      go_wp2
      go_ret
      exact ⟨by rw [HB.out]; rfl, rfl⟩
  · have t1 : decide (1 ≤ op) = false := decide_eq_false h
    have HB : Hid (rowB op = false) := by show _ = _; unfold rowB; rw [t1]; rfl
    go_enter Try.func56, Try.ntmps56
    go_wp2
    go_ret
    exact ⟨by rw [HB.out]; rfl, rfl⟩
theorem mE_out {op y : Int} (h : op < 1 ∨ 21 < op) : Nm.mE op y = 1 := by unfold Nm.mE; iterate 21 (rw [if_neg (by omega)])
theorem dE_out {op x y : Int} (h : op < 1 ∨ 21 < op) : Nm.dE op x y = 1 := by unfold Nm.dE; iterate 21 (rw [if_neg (by omega)])
theorem has_out {op v : Int} (h : op < 1 ∨ 21 < op) : hasB op v = false := by
  unfold hasB
  rw [mE_out h, dE_out h]
  split
  · rfl
  · split <;> rfl
theorem has_other {op v : Int} (h1 : v ≠ 1) (h2 : v ≠ 2) : hasB op v = false := by unfold hasB; rw [if_neg h1, if_neg h2]
set_option maxHeartbeats 4000000 in
set_option maxRecDepth 20000 in
theorem rhas_any (op v : Int) (w : World) : Calls Try.prog 17 #[.int .i64 op, .int .i64 v] w fun e w' => e = .returned (.bool (hasB op v)) ∧ w' = w := by
  by_cases h : op < 1
  · have t1 : decide (op < 1) = true := decide_eq_true h
    have HB : Hid (hasB op v = false) := has_out (.inl h)
    go_enter Try.func17, Try.ntmps17
    go_wp2
    go_ret
    exact ⟨by rw [HB.out]; rfl, rfl⟩
  by_cases h2 : 21 < op
  · have t1 : decide (op < 1) = false := decide_eq_false h
    have t2 : decide (21 < op) = true := decide_eq_true h2
    have HB : Hid (hasB op v = false) := has_out (.inr h2)
    go_enter Try.func17, Try.ntmps17
    go_wp2
    go_ret
    exact ⟨by rw [HB.out]; rfl, rfl⟩
  rcases (show op = 1 ∨ op = 2 ∨ op = 3 ∨ op = 4 ∨ op = 5 ∨ op = 6 ∨ op = 7 ∨ op = 8 ∨ op = 9 ∨ op = 10 ∨ op = 11 ∨ op = 12 ∨ op = 13 ∨ op = 14 ∨ op = 15 ∨ op = 16 ∨ op = 17 ∨ op = 18 ∨ op = 19 ∨ op = 20 ∨ op = 21 by omega) with rfl | rfl | rfl | rfl | rfl | rfl | rfl | rfl | rfl | rfl | rfl | rfl | rfl | rfl | rfl | rfl | rfl | rfl | rfl | rfl | rfl
  all_goals
    clear h h2
    by_cases v1 : v = 1
    · subst v1
      go_enter Try.func17, Try.ntmps17
      go_wp2
      go_ret
      exact ⟨congrArg (fun b => Ending.returned (.bool b)) (by decide +kernel), rfl⟩
    · by_cases v2 : v = 2
      · subst v2
        go_enter Try.func17, Try.ntmps17
        go_wp2
        go_ret
        exact ⟨congrArg (fun b => Ending.returned (.bool b)) (by decide +kernel), rfl⟩
      · have HB := has_other (op := 1) v1 v2
        have t1 : (v == 1) = false := by simpa using v1
        have t2 : (v == 2) = false := by simpa using v2
        have HV : Hid (v ≠ 1 ∧ v ≠ 2) := ⟨v1, v2⟩
        clear HB v1 v2
        go_enter Try.func17, Try.ntmps17
        go_wp2
        go_ret
        exact ⟨by rw [has_other HV.out.1 HV.out.2]; rfl, rfl⟩
theorem has5_any (op v : Int) (w : World) : Calls Try.prog 6 #[.int .i64 op, .int .i64 v] w fun e w' => e = .returned (.bool (hasB op v)) ∧ w' = w := by
  go_enter Try.func6, Try.ntmps6
  go_wp2_with (go_at_call 17; (with_reducible refine (rhas_any op v _).mono ?_); rintro e w1 ⟨rfl, rfl⟩)
  go_ret
  exact ⟨rfl, rfl⟩
/-- The error of an op that is not there, or lacks the valence. -/
def opM (op : Int) : Int := if lck (Nm.mE op 0) = true then Nm.mE op 0 else 0
def opD (op : Int) : Int := if lck (Nm.dE op 0 0) = true then Nm.dE op 0 0 else 0
theorem op_facts (op : Int) : (rowB op = false → opM op = 1 ∧ opD op = 1) ∧ (rowB op = true → (hasB op 1 = true → opM op = 0) ∧ (hasB op 1 = false → opM op = 16) ∧ (hasB op 2 = true → opD op = 0) ∧ (hasB op 2 = false → opD op = 16)) := by
  by_cases h : op < 1 ∨ 21 < op
  · refine ⟨fun _ => ?_, fun e => ?_⟩
    · unfold opM opD; rw [mE_out h, dE_out h]; exact ⟨rfl, rfl⟩
    · unfold rowB at e; simp at e; omega
  · refine ⟨fun e => ?_, fun _ => ?_⟩
    · unfold rowB at e; simp at e; omega
    · rcases (show op = 1 ∨ op = 2 ∨ op = 3 ∨ op = 4 ∨ op = 5 ∨ op = 6 ∨ op = 7 ∨ op = 8 ∨ op = 9 ∨ op = 10 ∨ op = 11 ∨ op = 12 ∨ op = 13 ∨ op = 14 ∨ op = 15 ∨ op = 16 ∨ op = 17 ∨ op = 18 ∨ op = 19 ∨ op = 20 ∨ op = 21 by omega) with rfl | rfl | rfl | rfl | rfl | rfl | rfl | rfl | rfl | rfl | rfl | rfl | rfl | rfl | rfl | rfl | rfl | rfl | rfl | rfl | rfl <;> decide +kernel
end Go.Proofs.Ytpkednlfhdpdhaa

namespace Go.Proofs.Ytpkednlfhdpdhaa

open Go.RowKit

set_option linter.unusedVariables false

def bdM (op : Int) (s a : List Int) : Int := if mayA s a ≠ 0 then 1 else opM op
set_option maxHeartbeats 2000000 in
theorem bad1_any (op : Int) (g : Nat) (so ao : Option Addr) (sn sc an ac : Nat) (s a : List Int) (w : World) (hg : w.heap[g]? = some (.cells #[.slice so sn sc, .slice ao an ac] 30 (0, 0))) (r0s : Rd w so sn s) (r0a : Rd w ao an a) :
    Calls Try.prog 29 #[.int .i64 op, .int .i64 1, .slice (some ⟨g, 0, none⟩) 1 1] w fun e w' => e = .returned (.int .i64 (bdM op s a)) ∧ Below w.heap.size w w' := by
  have hl := (Array.getElem?_eq_some_iff.1 hg).1
  have CS : ∀ V, Below w.heap.size w V → V.cell? ⟨g, 0, none⟩ = some (.slice so sn sc) ∧ V.cell? ⟨g, 1, none⟩ = some (.slice ao an ac) := fun V k => by
    have e := (k.block g hl).trans hg
    exact ⟨(cell_of_row V g 0 _ _ (0, 0) e), (cell_of_row V g 1 _ _ (0, 0) e)⟩
  obtain ⟨c0, c1⟩ := CS w (Below.refl _ _)
  have cM0 := refMayA_any so ao sn sc an ac s a w r0s r0a
  have cR := fun V => rrow_any op V
  have cH := fun V => rhas_any op 1 V
  have HF := op_facts op
  by_cases m0 : mayA s a = 0
  · have HM0 : Hid (mayA s a = 0) := m0
    rw [m0] at cM0
    clear m0
    have HB0 : bdM op s a = opM op := by unfold bdM; rw [if_neg (by simp [HM0.out])]
    cases hr : rowB op with
    | false =>
      have HB : Hid (bdM op s a = 1) := by show _ = _; rw [HB0]; exact (HF.1 hr).1
      simp only [hr] at cR
      clear HB0 HF hr
      go_enter Try.func29, Try.ntmps29
      go_wp2
      refine wp_loop_rounds 2 ?_
      rw [rounds_succ]
      go_wp2_with (go_at_call 55; (with_reducible refine cM0.mono ?_); rintro e w1 ⟨rfl, k1⟩)
      rw [rounds_succ]
      go_wp2_with (go_at_call 56; (with_reducible refine (cR _).mono ?_); rintro e w9 ⟨rfl, rfl⟩)
      go_ret
      exact ⟨by rw [HB.out]; rfl, k1⟩
    | true =>
      cases hh : hasB op 1 with
      | false =>
        have HB : Hid (bdM op s a = 16) := by show _ = _; rw [HB0]; exact (HF.2 hr).2.1 hh
        simp only [hr] at cR
        simp only [hh] at cH
        clear HB0 HF hr hh
        go_enter Try.func29, Try.ntmps29
        go_wp2
        refine wp_loop_rounds 2 ?_
        rw [rounds_succ]
        go_wp2_with (go_at_call 55; (with_reducible refine cM0.mono ?_); rintro e w1 ⟨rfl, k1⟩)
        rw [rounds_succ]
        go_wp2_with (first | (go_at_call 56; (with_reducible refine (cR _).mono ?_); rintro e w9 ⟨rfl, rfl⟩) | (go_at_call 17; (with_reducible refine (cH _).mono ?_); rintro e w9 ⟨rfl, rfl⟩))
        go_ret
        exact ⟨by rw [HB.out]; rfl, k1⟩
      | true =>
        have HB : Hid (bdM op s a = 0) := by show _ = _; rw [HB0]; exact (HF.2 hr).1 hh
        simp only [hr] at cR
        simp only [hh] at cH
        clear HB0 HF hr hh
        go_enter Try.func29, Try.ntmps29
        go_wp2
        refine wp_loop_rounds 2 ?_
        rw [rounds_succ]
        go_wp2_with (go_at_call 55; (with_reducible refine cM0.mono ?_); rintro e w1 ⟨rfl, k1⟩)
        rw [rounds_succ]
        go_wp2_with (first | (go_at_call 56; (with_reducible refine (cR _).mono ?_); rintro e w9 ⟨rfl, rfl⟩) | (go_at_call 17; (with_reducible refine (cH _).mono ?_); rintro e w9 ⟨rfl, rfl⟩))
        go_ret
        exact ⟨by rw [HB.out]; rfl, k1⟩
  · have HB : Hid (bdM op s a = 1) := by show _ = _; unfold bdM; rw [if_pos m0]
    have tm : (mayA s a != 0) = true := by simpa using m0
    clear m0 HF
    go_enter Try.func29, Try.ntmps29
    go_wp2
    refine wp_loop_rounds 2 ?_
    rw [rounds_succ]
    go_wp2_with (go_at_call 55; (with_reducible refine cM0.mono ?_); rintro e w1 ⟨rfl, k1⟩)
    go_ret
    exact ⟨by rw [HB.out]; rfl, k1⟩
def bdD (op : Int) (s a t b : List Int) : Int := if mayA s a ≠ 0 then 1 else if mayA t b ≠ 0 then 1 else opD op
set_option maxHeartbeats 2000000 in
theorem bad2_any (op : Int) (g : Nat) (so ao : Option Addr) (sn sc an ac : Nat) (s a : List Int) (uo bo : Option Addr) (tn tc bn bc : Nat) (t b : List Int) (w : World) (hg : w.heap[g]? = some (.cells #[.slice so sn sc, .slice ao an ac, .slice uo tn tc, .slice bo bn bc] 30 (0, 0))) (r0s : Rd w so sn s) (r0a : Rd w ao an a) (r1s : Rd w uo tn t) (r1a : Rd w bo bn b) :
    Calls Try.prog 29 #[.int .i64 op, .int .i64 2, .slice (some ⟨g, 0, none⟩) 2 2] w fun e w' => e = .returned (.int .i64 (bdD op s a t b)) ∧ Below w.heap.size w w' := by
  have hl := (Array.getElem?_eq_some_iff.1 hg).1
  have CS : ∀ V, Below w.heap.size w V → V.cell? ⟨g, 0, none⟩ = some (.slice so sn sc) ∧ V.cell? ⟨g, 1, none⟩ = some (.slice ao an ac) ∧ V.cell? ⟨g, 2, none⟩ = some (.slice uo tn tc) ∧ V.cell? ⟨g, 3, none⟩ = some (.slice bo bn bc) := fun V k => by
    have e := (k.block g hl).trans hg
    exact ⟨(cell_of_row V g 0 _ _ (0, 0) e), (cell_of_row V g 1 _ _ (0, 0) e), (cell_of_row V g 2 _ _ (0, 0) e), (cell_of_row V g 3 _ _ (0, 0) e)⟩
  obtain ⟨c0, c1, c2, c3⟩ := CS w (Below.refl _ _)
  have cM0 := refMayA_any so ao sn sc an ac s a w r0s r0a
  have cR := fun V => rrow_any op V
  have cH := fun V => rhas_any op 2 V
  have HF := op_facts op
  by_cases m0 : mayA s a = 0
  · have HM0 : Hid (mayA s a = 0) := m0
    rw [m0] at cM0
    clear m0
    by_cases m1 : mayA t b = 0
    · have HM1 : Hid (mayA t b = 0) := m1
      clear m1
      have HB0 : bdD op s a t b = opD op := by unfold bdD; rw [if_neg (by simp [HM0.out]), if_neg (by simp [HM1.out])]
      cases hr : rowB op with
      | false =>
        have HB : Hid (bdD op s a t b = 1) := by show _ = _; rw [HB0]; exact (HF.1 hr).2
        simp only [hr] at cR
        clear HB0 HF hr
        go_enter Try.func29, Try.ntmps29
        go_wp2
        refine wp_loop_rounds 3 ?_
        rw [rounds_succ]
        go_wp2_with (go_at_call 55; (with_reducible refine cM0.mono ?_); rintro e w1 ⟨rfl, k1⟩; obtain ⟨d0, d1, d2, d3⟩ := CS w1 k1)
        rw [rounds_succ]
        go_wp2_with (go_at_call 55; have cM1 := (refMayA_any uo bo tn tc bn bc t b w1 (r1s.below k1 (Nat.le_refl _)) (r1a.below k1 (Nat.le_refl _))); rw [HM1.out] at cM1; (with_reducible refine cM1.mono ?_); rintro e w2 ⟨rfl, j2⟩; have k2 := k1.trans (j2.mono k1.size))
        rw [rounds_succ]
        go_wp2_with (go_at_call 56; (with_reducible refine (cR _).mono ?_); rintro e w9 ⟨rfl, rfl⟩)
        go_ret
        exact ⟨by rw [HB.out]; rfl, k2⟩
      | true =>
        cases hh : hasB op 2 with
        | false =>
          have HB : Hid (bdD op s a t b = 16) := by show _ = _; rw [HB0]; exact (HF.2 hr).2.2.2 hh
          simp only [hr] at cR
          simp only [hh] at cH
          clear HB0 HF hr hh
          go_enter Try.func29, Try.ntmps29
          go_wp2
          refine wp_loop_rounds 3 ?_
          rw [rounds_succ]
          go_wp2_with (go_at_call 55; (with_reducible refine cM0.mono ?_); rintro e w1 ⟨rfl, k1⟩; obtain ⟨d0, d1, d2, d3⟩ := CS w1 k1)
          rw [rounds_succ]
          go_wp2_with (go_at_call 55; have cM1 := (refMayA_any uo bo tn tc bn bc t b w1 (r1s.below k1 (Nat.le_refl _)) (r1a.below k1 (Nat.le_refl _))); rw [HM1.out] at cM1; (with_reducible refine cM1.mono ?_); rintro e w2 ⟨rfl, j2⟩; have k2 := k1.trans (j2.mono k1.size))
          rw [rounds_succ]
          go_wp2_with (first | (go_at_call 56; (with_reducible refine (cR _).mono ?_); rintro e w9 ⟨rfl, rfl⟩) | (go_at_call 17; (with_reducible refine (cH _).mono ?_); rintro e w9 ⟨rfl, rfl⟩))
          go_ret
          exact ⟨by rw [HB.out]; rfl, k2⟩
        | true =>
          have HB : Hid (bdD op s a t b = 0) := by show _ = _; rw [HB0]; exact (HF.2 hr).2.2.1 hh
          simp only [hr] at cR
          simp only [hh] at cH
          clear HB0 HF hr hh
          go_enter Try.func29, Try.ntmps29
          go_wp2
          refine wp_loop_rounds 3 ?_
          rw [rounds_succ]
          go_wp2_with (go_at_call 55; (with_reducible refine cM0.mono ?_); rintro e w1 ⟨rfl, k1⟩; obtain ⟨d0, d1, d2, d3⟩ := CS w1 k1)
          rw [rounds_succ]
          go_wp2_with (go_at_call 55; have cM1 := (refMayA_any uo bo tn tc bn bc t b w1 (r1s.below k1 (Nat.le_refl _)) (r1a.below k1 (Nat.le_refl _))); rw [HM1.out] at cM1; (with_reducible refine cM1.mono ?_); rintro e w2 ⟨rfl, j2⟩; have k2 := k1.trans (j2.mono k1.size))
          rw [rounds_succ]
          go_wp2_with (first | (go_at_call 56; (with_reducible refine (cR _).mono ?_); rintro e w9 ⟨rfl, rfl⟩) | (go_at_call 17; (with_reducible refine (cH _).mono ?_); rintro e w9 ⟨rfl, rfl⟩))
          go_ret
          exact ⟨by rw [HB.out]; rfl, k2⟩
    · have HB : Hid (bdD op s a t b = 1) := by show _ = _; unfold bdD; rw [if_neg (by simp [HM0.out]), if_pos m1]
      have HM1 : Hid (mayA t b ≠ 0) := m1
      have tm : (mayA t b != 0) = true := by simpa using m1
      clear m1 HF
      go_enter Try.func29, Try.ntmps29
      go_wp2
      refine wp_loop_rounds 3 ?_
      rw [rounds_succ]
      go_wp2_with (go_at_call 55; (with_reducible refine cM0.mono ?_); rintro e w1 ⟨rfl, k1⟩; obtain ⟨d0, d1, d2, d3⟩ := CS w1 k1)
      rw [rounds_succ]
      go_wp2_with (go_at_call 55; have cM1 := (refMayA_any uo bo tn tc bn bc t b w1 (r1s.below k1 (Nat.le_refl _)) (r1a.below k1 (Nat.le_refl _))); (with_reducible refine cM1.mono ?_); rintro e w2 ⟨rfl, j2⟩; have k2 := k1.trans (j2.mono k1.size))
      go_ret
      exact ⟨by rw [HB.out]; rfl, k2⟩
  · have HB : Hid (bdD op s a t b = 1) := by show _ = _; unfold bdD; rw [if_pos m0]
    have tm : (mayA s a != 0) = true := by simpa using m0
    clear m0 HF
    go_enter Try.func29, Try.ntmps29
    go_wp2
    refine wp_loop_rounds 3 ?_
    rw [rounds_succ]
    go_wp2_with (go_at_call 55; (with_reducible refine cM0.mono ?_); rintro e w1 ⟨rfl, k1⟩; obtain ⟨d0, d1, d2, d3⟩ := CS w1 k1)
    go_ret
    exact ⟨by rw [HB.out]; rfl, k1⟩
end Go.Proofs.Ytpkednlfhdpdhaa
