
/- The law's own call of package seek: it answers by its arguments alone, in new memory. -/

import Derived.Test.YtlajainnpnbcaaaSFb

import Derived.Test.YtlajainnpnbcaaaAFg

namespace Go.Proofs.Ytlajainnpnbcaaa

open Go.RowKit

set_option linter.unusedVariables false

theorem AnsQ.mono {w w' : World} {Φ Ψ : List Int → List Int → Prop} {E : Int} {e : Ending} (h : AnsQ w Φ E e w') (k : ∀ S A, Φ S A → Ψ S A) : AnsQ w Ψ E e w' := by
  obtain ⟨o1, n1, c1, o2, n2, c2, S, A, e1, f1, f2, p, b⟩ := h
  exact ⟨o1, n1, c1, o2, n2, c2, S, A, e1, f1, f2, k _ _ p, b⟩
theorem AnsQ.e {w w' : World} {z : List Int × List Int} {E : Int} {e : Ending} (h : AnsQ w (fun S A => S = z.1 ∧ A = z.2) E e w') : AnsE w z e w' := ⟨E, h⟩
/-- A call of Monad reads as z. -/
def MonK (O : Int) (s a : List Int) (z : List Int × List Int) : Prop := ∀ (so ao : Option Addr) (sn sc an ac : Nat) (w : World), Rd w so sn s → Sl so sn sc → Rd w ao an a → Sl ao an ac →
  Calls Try.prog 13 #[.int .i64 O, .agg #[.slice so sn sc, .slice ao an ac]] w fun e w' => AnsE w z e w'
def DyaK (O : Int) (s a t b : List Int) (z : List Int × List Int) : Prop := ∀ (so ao uo bo : Option Addr) (sn sc an ac tn tc bn bc : Nat) (w : World), Rd w so sn s → Sl so sn sc → Rd w ao an a → Sl ao an ac → Rd w uo tn t → Sl uo tn tc → Rd w bo bn b → Sl bo bn bc →
  Calls Try.prog 15 #[.int .i64 O, .agg #[.slice so sn sc, .slice ao an ac], .agg #[.slice uo tn tc, .slice bo bn bc]] w fun e w' => AnsE w z e w'
theorem none_of {O : Int} (h : O ≠ 27 ∧ O ≠ 34 ∧ O ≠ 35 ∧ O ≠ 36 ∧ O ≠ 11 ∧ O ≠ 10 ∧ O ≠ 37 ∧ O ≠ 38 ∧ O ≠ 18 ∧ O ≠ 19) : ∀ j, j < 10 → (sOp j == O) = false := by
  obtain ⟨h0, h1, h2, h3, h4, h5, h6, h7, h8, h9⟩ := h
  intro j hj
  have key : ∀ k : Int, O ≠ k → (k == O) = false := fun k hk => by simpa using fun e => hk e.symm
  match j, hj with
  | 0, _ => exact key 27 h0
  | 1, _ => exact key 34 h1
  | 2, _ => exact key 35 h2
  | 3, _ => exact key 36 h3
  | 4, _ => exact key 11 h4
  | 5, _ => exact key 10 h5
  | 6, _ => exact key 37 h6
  | 7, _ => exact key 38 h7
  | 8, _ => exact key 18 h8
  | 9, _ => exact key 19 h9
theorem mk_bad (O : Int) {s a : List Int} (my : mayA s a ≠ 0) : MonK O s a ([], []) := fun so ao sn sc an ac w r1 _ r2 _ =>
  (monadS_bad O so ao sn sc an ac s a w r1 r2 my).mono fun e w' h => AnsQ.e h
theorem mk_nub {s a : List Int} (my : mayA s a = 0) : MonK 36 s a (((nbP s a).length : Int) :: s.drop 1, chA (itX s a) (nbP s a) (nbP s a).length) := fun so ao sn sc an ac w r1 s1 r2 s2 =>
  (monadS_nub so ao sn sc an ac s a _ 0 w r1 r2 my fun V k => (nub_any so ao sn sc an ac s a V (r1.below k (Nat.le_refl _)) s1 (r2.below k (Nat.le_refl _)) s2 my).mono fun e w' ⟨o1, n1, c1, o2, n2, c2, h, f1, f2, b⟩ => ⟨o1, n1, c1, o2, n2, c2, _, _, h, f1, f2, ⟨rfl, rfl⟩, b⟩).mono fun e w' h => AnsQ.e h
theorem mk_first {s a : List Int} (my : mayA s a = 0) : MonK 11 s a ([(itN s : Int)], ifL (fsL (itX s a) (itN s)) (itN s)) := fun so ao sn sc an ac w r1 s1 r2 s2 =>
  (monadS_ne so ao sn sc an ac s a _ 0 w r1 r2 my fun V k => isFirst_any so ao sn sc an ac s a V (r1.below k (Nat.le_refl _)) s1 (r2.below k (Nat.le_refl _)) s2 my).mono fun e w' h => AnsQ.e h
theorem mk_class {s a : List Int} (my : mayA s a = 0) : ∃ z, MonK 10 s a z := by
  by_cases hf : mayF [((nbP s a).length : Int), (itN s : Int)] = 0
  · exact ⟨([((nbP s a).length : Int), (itN s : Int)], ckL (nbP s a) (fsL (itX s a) (itN s)) (itN s)), fun so ao sn sc an ac w r1 s1 r2 s2 =>
      (monadS_eq so ao sn sc an ac s a _ _ w r1 r2 my fun V k => classify_all so ao sn sc an ac s a V (r1.below k (Nat.le_refl _)) s1 (r2.below k (Nat.le_refl _)) s2 my).mono fun e w' h => AnsQ.e (h.mono fun S A p => p.1 hf)⟩
  · exact ⟨([], []), fun so ao sn sc an ac w r1 s1 r2 s2 =>
      (monadS_eq so ao sn sc an ac s a _ _ w r1 r2 my fun V k => classify_all so ao sn sc an ac s a V (r1.below k (Nat.le_refl _)) s1 (r2.below k (Nat.le_refl _)) s2 my).mono fun e w' h => AnsQ.e (h.mono fun S A p => p.2 hf)⟩
theorem mk_up {s a : List Int} (my : mayA s a = 0) : ∃ z, MonK 37 s a z := by
  by_cases hp : ∃ ps, Pls (cUp (itX s a)) (itN s) ps
  · obtain ⟨ps, P⟩ := hp
    exact ⟨([(itN s : Int)], ps), fun so ao sn sc an ac w r1 s1 r2 s2 =>
      (monadS_up so ao sn sc an ac s a (fun S A => S = [(itN s : Int)] ∧ A = ps) 0 w r1 r2 my fun V k => (gradeUp_any so ao sn sc an ac s a V (r1.below k (Nat.le_refl _)) s1 (r2.below k (Nat.le_refl _)) s2 my).mono fun e w' ⟨o1, n1, c1, o2, n2, c2, qs, h, f1, f2, Q, b⟩ => ⟨o1, n1, c1, o2, n2, c2, _, _, h, f1, f2, ⟨rfl, Pls.uniq (cUp3 _ _) Q P⟩, b⟩).mono fun e w' h => AnsQ.e h⟩
  · exact ⟨([], []), fun so ao sn sc an ac w r1 s1 r2 s2 =>
      (monadS_up so ao sn sc an ac s a (fun S A => S = [] ∧ A = []) 0 w r1 r2 my fun V k => (gradeUp_any so ao sn sc an ac s a V (r1.below k (Nat.le_refl _)) s1 (r2.below k (Nat.le_refl _)) s2 my).mono fun e w' ⟨o1, n1, c1, o2, n2, c2, qs, h, f1, f2, Q, b⟩ => absurd ⟨_, Q⟩ hp).mono fun e w' h => AnsQ.e h⟩
theorem mk_down {s a : List Int} (my : mayA s a = 0) : ∃ z, MonK 38 s a z := by
  by_cases hp : ∃ ps, Pls (cDn (itX s a)) (itN s) ps
  · obtain ⟨ps, P⟩ := hp
    exact ⟨([(itN s : Int)], ps), fun so ao sn sc an ac w r1 s1 r2 s2 =>
      (monadS_down so ao sn sc an ac s a (fun S A => S = [(itN s : Int)] ∧ A = ps) 0 w r1 r2 my fun V k => (gradeDown_any so ao sn sc an ac s a V (r1.below k (Nat.le_refl _)) s1 (r2.below k (Nat.le_refl _)) s2 my).mono fun e w' ⟨o1, n1, c1, o2, n2, c2, qs, h, f1, f2, Q, b⟩ => ⟨o1, n1, c1, o2, n2, c2, _, _, h, f1, f2, ⟨rfl, Pls.uniq (cDn3 _ _) Q P⟩, b⟩).mono fun e w' h => AnsQ.e h⟩
  · exact ⟨([], []), fun so ao sn sc an ac w r1 s1 r2 s2 =>
      (monadS_down so ao sn sc an ac s a (fun S A => S = [] ∧ A = []) 0 w r1 r2 my fun V k => (gradeDown_any so ao sn sc an ac s a V (r1.below k (Nat.le_refl _)) s1 (r2.below k (Nat.le_refl _)) s2 my).mono fun e w' ⟨o1, n1, c1, o2, n2, c2, qs, h, f1, f2, Q, b⟩ => absurd ⟨_, Q⟩ hp).mono fun e w' h => AnsQ.e h⟩
theorem monK_any (O : Int) (s a : List Int) : ∃ z, MonK O s a z := by
  by_cases my : mayA s a = 0
  · by_cases h36 : O = 36
    · subst h36; exact ⟨_, mk_nub my⟩
    by_cases h11 : O = 11
    · subst h11; exact ⟨_, mk_first my⟩
    by_cases h10 : O = 10
    · subst h10; exact mk_class my
    by_cases h37 : O = 37
    · subst h37; exact mk_up my
    by_cases h38 : O = 38
    · subst h38; exact mk_down my
    by_cases h27 : O = 27
    · subst h27; exact ⟨_, fun so ao sn sc an ac w r1 s1 r2 s2 => monadS_l27 so ao sn sc an ac s a w r1 r2 my⟩
    by_cases h34 : O = 34
    · subst h34; exact ⟨_, fun so ao sn sc an ac w r1 s1 r2 s2 => monadS_l34 so ao sn sc an ac s a w r1 r2 my⟩
    by_cases h35 : O = 35
    · subst h35; exact ⟨_, fun so ao sn sc an ac w r1 s1 r2 s2 => monadS_l35 so ao sn sc an ac s a w r1 r2 my⟩
    by_cases h18 : O = 18
    · subst h18; exact ⟨_, fun so ao sn sc an ac w r1 s1 r2 s2 => monadS_l18 so ao sn sc an ac s a w r1 r2 my⟩
    by_cases h19 : O = 19
    · subst h19; exact ⟨_, fun so ao sn sc an ac w r1 s1 r2 s2 => monadS_l19 so ao sn sc an ac s a w r1 r2 my⟩
    exact ⟨_, fun so ao sn sc an ac w r1 s1 r2 s2 => monadS_none O (none_of ⟨h27, h34, h35, h36, h11, h10, h37, h38, h18, h19⟩) so ao sn sc an ac s a w r1 r2 my⟩
  · exact ⟨_, mk_bad O my⟩
section

variable {s a t b : List Int}

theorem dk_place (mx : mayA s a = 0) (my : mayA t b = 0) : ∃ z, DyaK 34 s a t b z :=
  ⟨(t.take (frN t.length s.length), ecL (tP (itX s a) (itN s)) (cux t b (frN t.length s.length)) (cun t (frN t.length s.length))), fun so ao uo bo sn sc an ac tn tc bn bc w r1 s1 r2 s2 r3 s3 r4 s4 => by
    have e1 := r1.len
    have e3 := r3.len
    rw [e1, e3]
    exact (dyadS_iota so ao uo bo sn sc an ac tn tc bn bc s a t b _ 0 w r1 r2 r3 r4 mx my fun V k => (placeIn_any so ao uo bo sn sc an ac tn tc bn bc s a t b V (r1.below k (Nat.le_refl _)) s1 (r2.below k (Nat.le_refl _)) s2 mx (r3.below k (Nat.le_refl _)) s3 (r4.below k (Nat.le_refl _)) s4 my).mono fun e w' ⟨o1, n1, c1, o2, n2, c2, h, f1, f2, bb⟩ => ⟨o1, n1, c1, o2, n2, c2, _, _, h, f1, f2, ⟨rfl, rfl⟩, bb⟩).mono fun e w' h => AnsQ.e h⟩
theorem dk_in (mx : mayA s a = 0) (my : mayA t b = 0) : ∃ z, DyaK 35 s a t b z :=
  ⟨(s.take (frN s.length t.length), ecL (tI (itX t b) (itN t)) (cux s a (frN s.length t.length)) (cun s (frN s.length t.length))), fun so ao uo bo sn sc an ac tn tc bn bc w r1 s1 r2 s2 r3 s3 r4 s4 => by
    have e1 := r1.len
    have e3 := r3.len
    rw [e1, e3]
    exact (dyadS_in so ao uo bo sn sc an ac tn tc bn bc s a t b _ 0 w r1 r2 r3 r4 mx my fun V k => (isIn_any so ao uo bo sn sc an ac tn tc bn bc s a t b V (r1.below k (Nat.le_refl _)) s1 (r2.below k (Nat.le_refl _)) s2 mx (r3.below k (Nat.le_refl _)) s3 (r4.below k (Nat.le_refl _)) s4 my).mono fun e w' ⟨o1, n1, c1, o2, n2, c2, h, f1, f2, bb⟩ => ⟨o1, n1, c1, o2, n2, c2, _, _, h, f1, f2, ⟨rfl, rfl⟩, bb⟩).mono fun e w' h => AnsQ.e h⟩
theorem dk_not (mx : mayA s a = 0) (my : mayA t b = 0) : ∃ z, DyaK 18 s a t b z :=
  ⟨(((flt (woB (itX s a) (itX t b) (itN t)) (itN s)).length : Int) :: s.drop 1, chA (itX s a) (flt (woB (itX s a) (itX t b) (itN t)) (itN s)) (flt (woB (itX s a) (itX t b) (itN t)) (itN s)).length), fun so ao uo bo sn sc an ac tn tc bn bc w r1 s1 r2 s2 r3 s3 r4 s4 =>
    (dyadS_not so ao uo bo sn sc an ac tn tc bn bc s a t b _ 0 w r1 r2 r3 r4 mx my fun V k => without_any so ao uo bo sn sc an ac tn tc bn bc s a t b V (r1.below k (Nat.le_refl _)) s1 (r2.below k (Nat.le_refl _)) s2 mx (r3.below k (Nat.le_refl _)) s3 (r4.below k (Nat.le_refl _)) s4 my).mono fun e w' h => AnsQ.e h⟩
theorem dk_match (mx : mayA s a = 0) (my : mayA t b = 0) : ∃ z, DyaK 19 s a t b z :=
  ⟨([], [if eqA s a t b then 1 else 0]), fun so ao uo bo sn sc an ac tn tc bn bc w r1 s1 r2 s2 r3 s3 r4 s4 =>
    (dyadS_match so ao uo bo sn sc an ac tn tc bn bc s a t b _ 0 w r1 r2 r3 r4 mx my fun V k => match_any so ao uo bo sn sc an ac tn tc bn bc s a t b V (r1.below k (Nat.le_refl _)) (r2.below k (Nat.le_refl _)) (r3.below k (Nat.le_refl _)) (r4.below k (Nat.le_refl _))).mono fun e w' h => AnsQ.e h⟩
theorem dk_from (mx : mayA s a = 0) (my : mayA t b = 0) : ∃ z, DyaK 27 s a t b z := by
  by_cases h0 : s = []
  · subst h0
    refine ⟨(itmS t b (nth a 0), itmA t b (nth a 0)), fun so ao uo bo sn sc an ac tn tc bn bc w r1 s1 r2 s2 r3 s3 r4 s4 => ?_⟩
    obtain rfl : sn = 0 := r1.len.symm
    have han : 0 < an := by
      have := (mayA_zero mx).2
      rw [r2.len] at this
      simp [pr] at this
      omega
    exact (dyadS_from so ao uo bo 0 sc an ac tn tc bn bc [] a t b _ _ w r1 r2 r3 r4 mx my fun V k => from_ok so ao uo bo sc an ac tn tc bn bc (nth a 0) a t b V (r2.below k (Nat.le_refl _)) han rfl (r3.below k (Nat.le_refl _)) s3 (r4.below k (Nat.le_refl _)) s4).mono fun e w' h => AnsQ.e h
  · refine ⟨([], []), fun so ao uo bo sn sc an ac tn tc bn bc w r1 s1 r2 s2 r3 s3 r4 s4 => ?_⟩
    have hn : 0 < sn := by rw [← r1.len]; exact List.length_pos_iff.2 h0
    exact (dyadS_from so ao uo bo sn sc an ac tn tc bn bc s a t b _ _ w r1 r2 r3 r4 mx my fun V k => from_bad so ao uo bo sn sc an ac tn tc bn bc V hn).mono fun e w' h => AnsQ.e h
theorem dk_up (mx : mayA s a = 0) (my : mayA t b = 0) : ∃ z, DyaK 37 s a t b z := by
  by_cases het : tal s = tal t
  · by_cases hp : ∃ ps, Pls (cUp (itX t b)) (itN t) ps
    · obtain ⟨ps, P⟩ := hp
      exact ⟨((itN t : Int) :: s.drop 1, chA (itX s a) ps (itN t)), fun so ao uo bo sn sc an ac tn tc bn bc w r1 s1 r2 s2 r3 s3 r4 s4 =>
        (dyadS_up so ao uo bo sn sc an ac tn tc bn bc s a t b _ _ w r1 r2 r3 r4 mx my fun V k => sortUp_any so ao uo bo sn sc an ac tn tc bn bc s a t b V (r1.below k (Nat.le_refl _)) s1 (r2.below k (Nat.le_refl _)) s2 mx (r3.below k (Nat.le_refl _)) s3 (r4.below k (Nat.le_refl _)) s4 my het).mono fun e w' h => AnsQ.e (h.mono fun S A ⟨qs, Q, e1, e2⟩ => ⟨e1, by rw [e2, Pls.uniq (cUp3 _ _) Q P]⟩)⟩
    · exact ⟨([], []), fun so ao uo bo sn sc an ac tn tc bn bc w r1 s1 r2 s2 r3 s3 r4 s4 =>
        (dyadS_up so ao uo bo sn sc an ac tn tc bn bc s a t b _ _ w r1 r2 r3 r4 mx my fun V k => sortUp_any so ao uo bo sn sc an ac tn tc bn bc s a t b V (r1.below k (Nat.le_refl _)) s1 (r2.below k (Nat.le_refl _)) s2 mx (r3.below k (Nat.le_refl _)) s3 (r4.below k (Nat.le_refl _)) s4 my het).mono fun e w' h => AnsQ.e (h.mono fun S A ⟨qs, Q, e1, e2⟩ => absurd ⟨_, Q⟩ hp)⟩
  · exact ⟨([], []), fun so ao uo bo sn sc an ac tn tc bn bc w r1 s1 r2 s2 r3 s3 r4 s4 =>
      (dyadS_up so ao uo bo sn sc an ac tn tc bn bc s a t b _ _ w r1 r2 r3 r4 mx my fun V k => sortUp_no so ao uo bo sn sc an ac tn tc bn bc s a t b V (r1.below k (Nat.le_refl _)) (r2.below k (Nat.le_refl _)) mx (r3.below k (Nat.le_refl _)) (r4.below k (Nat.le_refl _)) my het).mono fun e w' h => AnsQ.e h⟩
theorem dk_down (mx : mayA s a = 0) (my : mayA t b = 0) : ∃ z, DyaK 38 s a t b z := by
  by_cases het : tal s = tal t
  · by_cases hp : ∃ ps, Pls (cDn (itX t b)) (itN t) ps
    · obtain ⟨ps, P⟩ := hp
      exact ⟨((itN t : Int) :: s.drop 1, chA (itX s a) ps (itN t)), fun so ao uo bo sn sc an ac tn tc bn bc w r1 s1 r2 s2 r3 s3 r4 s4 =>
        (dyadS_down so ao uo bo sn sc an ac tn tc bn bc s a t b _ _ w r1 r2 r3 r4 mx my fun V k => sortDown_any so ao uo bo sn sc an ac tn tc bn bc s a t b V (r1.below k (Nat.le_refl _)) s1 (r2.below k (Nat.le_refl _)) s2 mx (r3.below k (Nat.le_refl _)) s3 (r4.below k (Nat.le_refl _)) s4 my het).mono fun e w' h => AnsQ.e (h.mono fun S A ⟨qs, Q, e1, e2⟩ => ⟨e1, by rw [e2, Pls.uniq (cDn3 _ _) Q P]⟩)⟩
    · exact ⟨([], []), fun so ao uo bo sn sc an ac tn tc bn bc w r1 s1 r2 s2 r3 s3 r4 s4 =>
        (dyadS_down so ao uo bo sn sc an ac tn tc bn bc s a t b _ _ w r1 r2 r3 r4 mx my fun V k => sortDown_any so ao uo bo sn sc an ac tn tc bn bc s a t b V (r1.below k (Nat.le_refl _)) s1 (r2.below k (Nat.le_refl _)) s2 mx (r3.below k (Nat.le_refl _)) s3 (r4.below k (Nat.le_refl _)) s4 my het).mono fun e w' h => AnsQ.e (h.mono fun S A ⟨qs, Q, e1, e2⟩ => absurd ⟨_, Q⟩ hp)⟩
  · exact ⟨([], []), fun so ao uo bo sn sc an ac tn tc bn bc w r1 s1 r2 s2 r3 s3 r4 s4 =>
      (dyadS_down so ao uo bo sn sc an ac tn tc bn bc s a t b _ _ w r1 r2 r3 r4 mx my fun V k => sortDown_no so ao uo bo sn sc an ac tn tc bn bc s a t b V (r1.below k (Nat.le_refl _)) (r2.below k (Nat.le_refl _)) mx (r3.below k (Nat.le_refl _)) (r4.below k (Nat.le_refl _)) my het).mono fun e w' h => AnsQ.e h⟩
end

theorem dyaK_any (O : Int) (s a t b : List Int) : ∃ z, DyaK O s a t b z := by
  by_cases mx : mayA s a = 0
  · by_cases my : mayA t b = 0
    · by_cases h27 : O = 27
      · subst h27; exact dk_from mx my
      by_cases h34 : O = 34
      · subst h34; exact dk_place mx my
      by_cases h35 : O = 35
      · subst h35; exact dk_in mx my
      by_cases h37 : O = 37
      · subst h37; exact dk_up mx my
      by_cases h38 : O = 38
      · subst h38; exact dk_down mx my
      by_cases h18 : O = 18
      · subst h18; exact dk_not mx my
      by_cases h19 : O = 19
      · subst h19; exact dk_match mx my
      by_cases h36 : O = 36
      · subst h36; exact ⟨_, fun so ao uo bo sn sc an ac tn tc bn bc w r1 s1 r2 s2 r3 s3 r4 s4 => dyadS_l36 so ao uo bo sn sc an ac tn tc bn bc s a t b w r1 r2 r3 r4 mx my⟩
      by_cases h11 : O = 11
      · subst h11; exact ⟨_, fun so ao uo bo sn sc an ac tn tc bn bc w r1 s1 r2 s2 r3 s3 r4 s4 => dyadS_l11 so ao uo bo sn sc an ac tn tc bn bc s a t b w r1 r2 r3 r4 mx my⟩
      by_cases h10 : O = 10
      · subst h10; exact ⟨_, fun so ao uo bo sn sc an ac tn tc bn bc w r1 s1 r2 s2 r3 s3 r4 s4 => dyadS_l10 so ao uo bo sn sc an ac tn tc bn bc s a t b w r1 r2 r3 r4 mx my⟩
      exact ⟨_, fun so ao uo bo sn sc an ac tn tc bn bc w r1 s1 r2 s2 r3 s3 r4 s4 => dyadS_none O (none_of ⟨h27, h34, h35, h36, h11, h10, h37, h38, h18, h19⟩) so ao uo bo sn sc an ac tn tc bn bc s a t b w r1 r2 r3 r4 mx my⟩
    · exact ⟨([], []), fun so ao uo bo sn sc an ac tn tc bn bc w r1 s1 r2 s2 r3 s3 r4 s4 => (dyadS_bady O so ao uo bo sn sc an ac tn tc bn bc s a t b w r1 r2 r3 r4 mx my).mono fun e w' h => AnsQ.e h⟩
  · exact ⟨([], []), fun so ao uo bo sn sc an ac tn tc bn bc w r1 s1 r2 s2 r3 s3 r4 s4 => (dyadS_badx O so ao uo bo sn sc an ac tn tc bn bc s a t b w r1 r2 r3 r4 mx).mono fun e w' h => AnsQ.e h⟩
end Go.Proofs.Ytlajainnpnbcaaa

namespace Go.Proofs.Ytlajainnpnbcaaa

open Go.RowKit

set_option linter.unusedVariables false

theorem ft_box {e : TypeId} {w : World} {B : Nat} {ao : Option Addr} {n cap : Nat} {zs : List Int} (h : Ft e w B ao n cap zs) {j off r : Nat} (ea : ao = some ⟨j, off, none⟩) {cs : Array Value} (hr : w.heap[r]? = some (.cells cs 36 (0, 0))) (e' : some j = some r) (he : e ≠ 36 := by decide) : False := by
  simp only [Option.some.injEq] at e'
  subst e'
  obtain ⟨g, c, cur, h1, h2, h3, _⟩ := (h.own.2.resolve_left (fun x => by have := x.1; rw [ea] at this; cases this))
  rw [ea] at h1
  have : j = g := by simp at h1; exact h1.1.1
  subst this
  rw [hr] at h3
  simp only [Option.some.injEq, Obj.cells.injEq] at h3
  exact he h3.2.1.symm
set_option maxHeartbeats 2000000 in
set_option maxRecDepth 20000 in
theorem asked2 (O N : Int) (so ao uo bo : Option Addr) (sn sc an ac tn tc bn bc : Nat) (s a t b : List Int) (z : List Int × List Int) (hz : MonK O t b z) (w : World) (rs : Rd w so sn s) (ss : Sl so sn sc) (ra : Rd w ao an a) (sa : Sl ao an ac) (rt : Rd w uo tn t) (st : Sl uo tn tc) (rb : Rd w bo bn b) (sb : Sl bo bn bc) :
    Calls Try.prog 7 #[.agg #[.int .i64 2, .int .i64 O, .int .i64 N, .slice so sn sc, .slice ao an ac, .slice uo tn tc, .slice bo bn bc]] w fun e w' => ∃ v er, e = .returned (.tuple #[.agg #[v.1, v.2], .int .i64 er]) ∧ ArB w' w.heap.size v z ∧ Below w.heap.size w w' := by
  have k0 := box_below w (.cells #[.int .i64 2, .int .i64 O, .int .i64 N, .slice so sn sc, .slice ao an ac, .slice uo tn tc, .slice bo bn bc] 38)
  have k1 := box_below (w.alloc (.cells #[.int .i64 2, .int .i64 O, .int .i64 N, .slice so sn sc, .slice ao an ac, .slice uo tn tc, .slice bo bn bc] 38)) (.cells #[.slice none 0 0, .slice none 0 0] 36)
  have K1 := k0.trans (k1.mono k0.size)
  have r1 := allocNew (w.alloc (.cells #[.int .i64 2, .int .i64 O, .int .i64 N, .slice so sn sc, .slice ao an ac, .slice uo tn tc, .slice bo bn bc] 38)) (.cells #[.slice none 0 0, .slice none 0 0] 36)
  rw [World.size_alloc] at r1
  have cM := hz uo bo tn tc bn bc _ (rt.below K1 (Nat.le_refl _)) st (rb.below K1 (Nat.le_refl _)) sb
  have h2 := k1.size
  clear hz
  go_enter Try.func7, Try.ntmps7
  go_wp2_with (go_at_call 13; (with_reducible refine cM.mono ?_); rintro e W2 ⟨E, o1, n1, c1, o2, n2, c2, S, A, rfl, f1, f2, ⟨hS, hA⟩, k2⟩; have K2 := K1.trans (k2.mono K1.size); have r2 := (k2.block _ (Array.getElem?_eq_some_iff.1 r1).1).trans r1; have kb := box_below W2 (.cells #[.slice o1 n1 c1, .slice o2 n2 c2] 36); have K3 := K2.trans (kb.mono K2.size); have r3 := (kb.block _ (Array.getElem?_eq_some_iff.1 r2).1).trans r2; have g1 := f1.below kb (Nat.le_refl _); have g2 := f2.below kb (Nat.le_refl _); obtain ⟨y0, y1, _, _⟩ := box2 r3)
  (try simp only [Exit.inBlock, Exit.then])
  refine bodyPost_ret (v := .tuple #[.agg #[.slice o1 n1 c1, .slice o2 n2 c2], .int .i64 E]) (by rw [results_cell_tmp rfl]; go_simp) rfl ?_
  rw [hS] at g1
  rw [hA] at g2
  refine ⟨(.slice o1 n1 c1, .slice o2 n2 c2), E, rfl, ⟨_, _, _, _, _, _, rfl, (g1.keep1 (set2 _ _ _ _ _ _) (fun j off e e' => ft_box g1 e r3 e')).mono (by simp; omega), (g2.keep1 (set2 _ _ _ _ _ _) (fun j off e e' => ft_box g2 e r3 e')).mono (by simp; omega)⟩, below_set2 _ _ _ _ K3 (by omega) (Nat.le_refl _)⟩
set_option maxHeartbeats 2000000 in
set_option maxRecDepth 20000 in
theorem asked3 (O N : Int) (so ao uo bo : Option Addr) (sn sc an ac tn tc bn bc : Nat) (s a t b : List Int) (z : List Int × List Int) (hz : DyaK O s a t b z) (w : World) (rs : Rd w so sn s) (ss : Sl so sn sc) (ra : Rd w ao an a) (sa : Sl ao an ac) (rt : Rd w uo tn t) (st : Sl uo tn tc) (rb : Rd w bo bn b) (sb : Sl bo bn bc) :
    Calls Try.prog 7 #[.agg #[.int .i64 3, .int .i64 O, .int .i64 N, .slice so sn sc, .slice ao an ac, .slice uo tn tc, .slice bo bn bc]] w fun e w' => ∃ v er, e = .returned (.tuple #[.agg #[v.1, v.2], .int .i64 er]) ∧ ArB w' w.heap.size v z ∧ Below w.heap.size w w' := by
  have k0 := box_below w (.cells #[.int .i64 3, .int .i64 O, .int .i64 N, .slice so sn sc, .slice ao an ac, .slice uo tn tc, .slice bo bn bc] 38)
  have k1 := box_below (w.alloc (.cells #[.int .i64 3, .int .i64 O, .int .i64 N, .slice so sn sc, .slice ao an ac, .slice uo tn tc, .slice bo bn bc] 38)) (.cells #[.slice none 0 0, .slice none 0 0] 36)
  have K1 := k0.trans (k1.mono k0.size)
  have r1 := allocNew (w.alloc (.cells #[.int .i64 3, .int .i64 O, .int .i64 N, .slice so sn sc, .slice ao an ac, .slice uo tn tc, .slice bo bn bc] 38)) (.cells #[.slice none 0 0, .slice none 0 0] 36)
  rw [World.size_alloc] at r1
  have cM := hz so ao uo bo sn sc an ac tn tc bn bc _ (rs.below K1 (Nat.le_refl _)) ss (ra.below K1 (Nat.le_refl _)) sa (rt.below K1 (Nat.le_refl _)) st (rb.below K1 (Nat.le_refl _)) sb
  have h2 := k1.size
  clear hz
  go_enter Try.func7, Try.ntmps7
  go_wp2_with (go_at_call 15; (with_reducible refine cM.mono ?_); rintro e W2 ⟨E, o1, n1, c1, o2, n2, c2, S, A, rfl, f1, f2, ⟨hS, hA⟩, k2⟩; have K2 := K1.trans (k2.mono K1.size); have r2 := (k2.block _ (Array.getElem?_eq_some_iff.1 r1).1).trans r1; have kb := box_below W2 (.cells #[.slice o1 n1 c1, .slice o2 n2 c2] 36); have K3 := K2.trans (kb.mono K2.size); have r3 := (kb.block _ (Array.getElem?_eq_some_iff.1 r2).1).trans r2; have g1 := f1.below kb (Nat.le_refl _); have g2 := f2.below kb (Nat.le_refl _); obtain ⟨y0, y1, _, _⟩ := box2 r3)
  (try simp only [Exit.inBlock, Exit.then])
  refine bodyPost_ret (v := .tuple #[.agg #[.slice o1 n1 c1, .slice o2 n2 c2], .int .i64 E]) (by rw [results_cell_tmp rfl]; go_simp) rfl ?_
  rw [hS] at g1
  rw [hA] at g2
  refine ⟨(.slice o1 n1 c1, .slice o2 n2 c2), E, rfl, ⟨_, _, _, _, _, _, rfl, (g1.keep1 (set2 _ _ _ _ _ _) (fun j off e e' => ft_box g1 e r3 e')).mono (by simp; omega), (g2.keep1 (set2 _ _ _ _ _ _) (fun j off e e' => ft_box g2 e r3 e')).mono (by simp; omega)⟩, below_set2 _ _ _ _ K3 (by omega) (Nat.le_refl _)⟩
/-- What is answered to a call hangs on the call alone. -/
theorem asked7_any (K O N : Int) (hK : K = 2 ∨ K = 3) (zx zy : List Int × List Int) : ∃ z, ∀ (x y : Value × Value) (w : World), Arw w x zx → Arw w y zy →
    Calls Try.prog 7 #[.agg #[.int .i64 K, .int .i64 O, .int .i64 N, x.1, x.2, y.1, y.2]] w fun e w' => ∃ v er, e = .returned (.tuple #[.agg #[v.1, v.2], .int .i64 er]) ∧ ArB w' w.heap.size v z ∧ Below w.heap.size w w' := by
  rcases hK with rfl | rfl
  · obtain ⟨z, hz⟩ := monK_any O zy.1 zy.2
    refine ⟨z, fun x y w hx hy => ?_⟩
    obtain ⟨so, sn, sc, ao, an, ac, rfl, f1, f2⟩ := hx
    obtain ⟨uo, tn, tc, bo, bn, bc, rfl, f3, f4⟩ := hy
    exact asked2 O N so ao uo bo sn sc an ac tn tc bn bc zx.1 zx.2 zy.1 zy.2 z hz w f1.rd f1.sl f2.rd f2.sl f3.rd f3.sl f4.rd f4.sl
  · obtain ⟨z, hz⟩ := dyaK_any O zx.1 zx.2 zy.1 zy.2
    refine ⟨z, fun x y w hx hy => ?_⟩
    obtain ⟨so, sn, sc, ao, an, ac, rfl, f1, f2⟩ := hx
    obtain ⟨uo, tn, tc, bo, bn, bc, rfl, f3, f4⟩ := hy
    exact asked3 O N so ao uo bo sn sc an ac tn tc bn bc zx.1 zx.2 zy.1 zy.2 z hz w f1.rd f1.sl f2.rd f2.sl f3.rd f3.sl f4.rd f4.sl
end Go.Proofs.Ytlajainnpnbcaaa
