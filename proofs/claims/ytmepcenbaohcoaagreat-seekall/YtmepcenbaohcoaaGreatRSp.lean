
/- Package seek and the document: one answer. -/

import Derived.Test.YtmepcenbaohcoaaGreatSFe

import Derived.Test.YtmepcenbaohcoaaGreatRSn

namespace Go.Proofs.YtmepcenbaohcoaaGreat

open Go.RowKit

set_option linter.unusedVariables false

def MonQ (F : Nat) (O : Int) (s a : List Int) (E : Int) (z : List Int × List Int) : Prop := ∀ (so ao : Option Addr) (sn sc an ac : Nat) (w : World), Rd w so sn s → Sl so sn sc → Rd w ao an a → Sl ao an ac →
  Calls Tryz.prog F #[.int .i64 O, .agg #[.slice so sn sc, .slice ao an ac]] w fun e w' => AnsQ w (fun S A => S = z.1 ∧ A = z.2) E e w'
def DyaQ (F : Nat) (O : Int) (s a t b : List Int) (E : Int) (z : List Int × List Int) : Prop := ∀ (so ao uo bo : Option Addr) (sn sc an ac tn tc bn bc : Nat) (w : World), Rd w so sn s → Sl so sn sc → Rd w ao an a → Sl ao an ac → Rd w uo tn t → Sl uo tn tc → Rd w bo bn b → Sl bo bn bc →
  Calls Tryz.prog F #[.int .i64 O, .agg #[.slice so sn sc, .slice ao an ac], .agg #[.slice uo tn tc, .slice bo bn bc]] w fun e w' => AnsQ w (fun S A => S = z.1 ∧ A = z.2) E e w'
theorem row_none {O : Int} (h : O ≠ 27 ∧ O ≠ 34 ∧ O ≠ 35 ∧ O ≠ 36 ∧ O ≠ 11 ∧ O ≠ 10 ∧ O ≠ 37 ∧ O ≠ 38 ∧ O ≠ 18 ∧ O ≠ 19) (v : Int) (ok : Bool) : bdS O v ok = 1 := by
  obtain ⟨h0, h1, h2, h3, h4, h5, h6, h7, h8, h9⟩ := h
  have r : rowS O = false := decide_eq_false (by rintro (e | e | e | e | e | e | e | e | e | e) <;> contradiction)
  unfold bdS
  rw [r]
  cases ok <;> rfl
theorem ok1 {s a : List Int} (my : mayA s a = 0) : true = true ↔ ∀ j, j < 1 → mayA s a = 0 := ⟨fun _ _ _ => my, fun _ => rfl⟩
theorem ok2 {s a t b : List Int} (mx : mayA s a = 0) (my : mayA t b = 0) : true = true ↔ ∀ j, j < 2 → mayA ((fun j : Nat => if j = 0 then (s, a) else (t, b)) j).1 ((fun j : Nat => if j = 0 then (s, a) else (t, b)) j).2 = 0 := ⟨fun _ j hj => (by
  show mayA (if j = 0 then (s, a) else (t, b)).1 (if j = 0 then (s, a) else (t, b)).2 = 0
  by_cases h : j = 0
  · rw [if_pos h]; exact mx
  · rw [if_neg h]; exact my), fun _ => rfl⟩
theorem no2 {s a t b : List Int} (h : ¬ (mayA s a = 0 ∧ mayA t b = 0)) : false = true ↔ ∀ j, j < 2 → mayA ((fun j : Nat => if j = 0 then (s, a) else (t, b)) j).1 ((fun j : Nat => if j = 0 then (s, a) else (t, b)) j).2 = 0 := ⟨fun q => absurd q (by decide), fun q => absurd ⟨q 0 (by omega), q 1 (by omega)⟩ h⟩
section

variable {s a t b : List Int}

theorem bm_lack (O : Int) (my : mayA s a = 0) (hb : bdS O 1 true = 16) (h : ∀ (so ao : Option Addr) (sn sc an ac : Nat) (w : World), Rd w so sn s → Rd w ao an a → Calls Tryz.prog 12 #[.int .i64 O, .agg #[.slice so sn sc, .slice ao an ac]] w fun e w' => AnsQ w (fun S A => S = [] ∧ A = []) 16 e w') : ∃ E z, MonQ 12 O s a E z ∧ MonQ 17 O s a E z :=
  ⟨16, ([], []), fun so ao sn sc an ac w r1 s1 r2 s2 => h so ao sn sc an ac w r1 r2, fun so ao sn sc an ac w r1 s1 r2 s2 => rm_bad O 16 true so ao sn sc an ac s a w r1 s1 r2 s2 (ok1 my) hb (by decide)⟩
theorem bm_37 (my : mayA s a = 0) : ∃ E z, MonQ 12 37 s a E z ∧ MonQ 17 37 s a E z := by
  by_cases hp : ∃ ps, Pls (cUp (itX s a)) (itN s) ps
  · obtain ⟨ps, P⟩ := hp
    exact ⟨0, ([(itN s : Int)], ps), fun so ao sn sc an ac w r1 s1 r2 s2 =>
      (monadS_up so ao sn sc an ac s a (fun S A => S = [(itN s : Int)] ∧ A = ps) 0 w r1 r2 my fun V k => (gradeUp_any so ao sn sc an ac s a V (r1.below k (Nat.le_refl _)) s1 (r2.below k (Nat.le_refl _)) s2 my).mono fun e w' ⟨o1, n1, c1, o2, n2, c2, qs, h, f1, f2, Q, b⟩ => ⟨o1, n1, c1, o2, n2, c2, _, _, h, f1, f2, ⟨rfl, Pls.uniq (cUp3 _ _) Q P⟩, b⟩), fun so ao sn sc an ac w r1 s1 r2 s2 =>
      (rm_37 so ao sn sc an ac s a w r1 s1 r2 s2 my).mono fun e w' h => h.mono fun S A ⟨qs, Q, e1, e2⟩ => ⟨e1, e2.trans (Pls.uniq (cUp3 _ _) Q P)⟩⟩
  · exact ⟨0, ([], []), fun so ao sn sc an ac w r1 s1 r2 s2 =>
      (monadS_up so ao sn sc an ac s a (fun S A => S = [] ∧ A = []) 0 w r1 r2 my fun V k => (gradeUp_any so ao sn sc an ac s a V (r1.below k (Nat.le_refl _)) s1 (r2.below k (Nat.le_refl _)) s2 my).mono fun e w' ⟨o1, n1, c1, o2, n2, c2, qs, h, f1, f2, Q, b⟩ => absurd ⟨_, Q⟩ hp), fun so ao sn sc an ac w r1 s1 r2 s2 =>
      (rm_37 so ao sn sc an ac s a w r1 s1 r2 s2 my).mono fun e w' h => h.mono fun S A ⟨qs, Q, e1, e2⟩ => absurd ⟨_, Q⟩ hp⟩
theorem bm_38 (my : mayA s a = 0) : ∃ E z, MonQ 12 38 s a E z ∧ MonQ 17 38 s a E z := by
  by_cases hp : ∃ ps, Pls (cDn (itX s a)) (itN s) ps
  · obtain ⟨ps, P⟩ := hp
    exact ⟨0, ([(itN s : Int)], ps), fun so ao sn sc an ac w r1 s1 r2 s2 =>
      (monadS_down so ao sn sc an ac s a (fun S A => S = [(itN s : Int)] ∧ A = ps) 0 w r1 r2 my fun V k => (gradeDown_any so ao sn sc an ac s a V (r1.below k (Nat.le_refl _)) s1 (r2.below k (Nat.le_refl _)) s2 my).mono fun e w' ⟨o1, n1, c1, o2, n2, c2, qs, h, f1, f2, Q, b⟩ => ⟨o1, n1, c1, o2, n2, c2, _, _, h, f1, f2, ⟨rfl, Pls.uniq (cDn3 _ _) Q P⟩, b⟩), fun so ao sn sc an ac w r1 s1 r2 s2 =>
      (rm_38 so ao sn sc an ac s a w r1 s1 r2 s2 my).mono fun e w' h => h.mono fun S A ⟨qs, Q, e1, e2⟩ => ⟨e1, e2.trans (Pls.uniq (cDn3 _ _) Q P)⟩⟩
  · exact ⟨0, ([], []), fun so ao sn sc an ac w r1 s1 r2 s2 =>
      (monadS_down so ao sn sc an ac s a (fun S A => S = [] ∧ A = []) 0 w r1 r2 my fun V k => (gradeDown_any so ao sn sc an ac s a V (r1.below k (Nat.le_refl _)) s1 (r2.below k (Nat.le_refl _)) s2 my).mono fun e w' ⟨o1, n1, c1, o2, n2, c2, qs, h, f1, f2, Q, b⟩ => absurd ⟨_, Q⟩ hp), fun so ao sn sc an ac w r1 s1 r2 s2 =>
      (rm_38 so ao sn sc an ac s a w r1 s1 r2 s2 my).mono fun e w' h => h.mono fun S A ⟨qs, Q, e1, e2⟩ => absurd ⟨_, Q⟩ hp⟩
theorem bm_10 (my : mayA s a = 0) : ∃ E z, MonQ 12 10 s a E z ∧ MonQ 17 10 s a E z :=
  ⟨mayF [((nbP s a).length : Int), (itN s : Int)], (okL (mayF [((nbP s a).length : Int), (itN s : Int)]) [((nbP s a).length : Int), (itN s : Int)], okL (mayF [((nbP s a).length : Int), (itN s : Int)]) (ckL (nbP s a) (fsL (itX s a) (itN s)) (itN s))), fun so ao sn sc an ac w r1 s1 r2 s2 =>
    (monadS_eq so ao sn sc an ac s a _ _ w r1 r2 my fun V k => classify_all so ao sn sc an ac s a V (r1.below k (Nat.le_refl _)) s1 (r2.below k (Nat.le_refl _)) s2 my).mono fun e w' h => h.mono fun S A p => by
      by_cases hf : mayF [((nbP s a).length : Int), (itN s : Int)] = 0
      · show S = okL _ _ ∧ A = okL _ _
        rw [okL_ok hf, okL_ok hf]; exact p.1 hf
      · show S = okL _ _ ∧ A = okL _ _
        rw [okL_no hf, okL_no hf]; exact p.2 hf, fun so ao sn sc an ac w r1 s1 r2 s2 => rm_10 so ao sn sc an ac s a w r1 s1 r2 s2 my⟩
theorem bm_any (O : Int) (s a : List Int) : ∃ E z, MonQ 12 O s a E z ∧ MonQ 17 O s a E z := by
  by_cases my : mayA s a = 0
  · by_cases h36 : O = 36
    · subst h36
      exact ⟨0, (((nbP s a).length : Int) :: s.drop 1, chA (itX s a) (nbP s a) (nbP s a).length), fun so ao sn sc an ac w r1 s1 r2 s2 => monadS_nub so ao sn sc an ac s a _ 0 w r1 r2 my fun V k => (nub_any so ao sn sc an ac s a V (r1.below k (Nat.le_refl _)) s1 (r2.below k (Nat.le_refl _)) s2 my).mono fun e w' ⟨o1, n1, c1, o2, n2, c2, h, f1, f2, b⟩ => ⟨o1, n1, c1, o2, n2, c2, _, _, h, f1, f2, ⟨rfl, rfl⟩, b⟩, fun so ao sn sc an ac w r1 s1 r2 s2 => rm_36 so ao sn sc an ac s a w r1 s1 r2 s2 my⟩
    by_cases h11 : O = 11
    · subst h11
      exact ⟨0, ([(itN s : Int)], ifL (fsL (itX s a) (itN s)) (itN s)), fun so ao sn sc an ac w r1 s1 r2 s2 => monadS_ne so ao sn sc an ac s a _ 0 w r1 r2 my fun V k => isFirst_any so ao sn sc an ac s a V (r1.below k (Nat.le_refl _)) s1 (r2.below k (Nat.le_refl _)) s2 my, fun so ao sn sc an ac w r1 s1 r2 s2 => rm_11 so ao sn sc an ac s a w r1 s1 r2 s2 my⟩
    by_cases h10 : O = 10
    · subst h10; exact bm_10 my
    by_cases h37 : O = 37
    · subst h37; exact bm_37 my
    by_cases h38 : O = 38
    · subst h38; exact bm_38 my
    by_cases h27 : O = 27
    · subst h27; exact bm_lack 27 my (by decide) fun so ao sn sc an ac w r1 r2 => monadS_l27E so ao sn sc an ac s a w r1 r2 my
    by_cases h34 : O = 34
    · subst h34; exact bm_lack 34 my (by decide) fun so ao sn sc an ac w r1 r2 => monadS_l34E so ao sn sc an ac s a w r1 r2 my
    by_cases h35 : O = 35
    · subst h35; exact bm_lack 35 my (by decide) fun so ao sn sc an ac w r1 r2 => monadS_l35E so ao sn sc an ac s a w r1 r2 my
    by_cases h18 : O = 18
    · subst h18; exact bm_lack 18 my (by decide) fun so ao sn sc an ac w r1 r2 => monadS_l18E so ao sn sc an ac s a w r1 r2 my
    by_cases h19 : O = 19
    · subst h19; exact bm_lack 19 my (by decide) fun so ao sn sc an ac w r1 r2 => monadS_l19E so ao sn sc an ac s a w r1 r2 my
    have hn : O ≠ 27 ∧ O ≠ 34 ∧ O ≠ 35 ∧ O ≠ 36 ∧ O ≠ 11 ∧ O ≠ 10 ∧ O ≠ 37 ∧ O ≠ 38 ∧ O ≠ 18 ∧ O ≠ 19 := ⟨h27, h34, h35, h36, h11, h10, h37, h38, h18, h19⟩
    exact ⟨1, ([], []), fun so ao sn sc an ac w r1 s1 r2 s2 => monadS_noneE O (none_of hn) so ao sn sc an ac s a w r1 r2 my, fun so ao sn sc an ac w r1 s1 r2 s2 => rm_bad O 1 true so ao sn sc an ac s a w r1 s1 r2 s2 (ok1 my) (row_none hn 1 true) (by decide)⟩
  · exact ⟨1, ([], []), fun so ao sn sc an ac w r1 s1 r2 s2 => monadS_bad O so ao sn sc an ac s a w r1 r2 my, fun so ao sn sc an ac w r1 s1 r2 s2 => rm_bad O 1 false so ao sn sc an ac s a w r1 s1 r2 s2 ⟨fun q => absurd q (by decide), fun q => absurd (q 0 (by omega)) my⟩ rfl (by decide)⟩
theorem bd_34 (mx : mayA s a = 0) (my : mayA t b = 0) : ∃ E z, DyaQ 14 34 s a t b E z ∧ DyaQ 18 34 s a t b E z :=
  ⟨0, (t.take (frN t.length s.length), ecL (tP (itX s a) (itN s)) (cux t b (frN t.length s.length)) (cun t (frN t.length s.length))), fun so ao uo bo sn sc an ac tn tc bn bc w r1 s1 r2 s2 r3 s3 r4 s4 => by
    have e1 := r1.len
    have e3 := r3.len
    rw [e1, e3]
    exact dyadS_iota so ao uo bo sn sc an ac tn tc bn bc s a t b _ 0 w r1 r2 r3 r4 mx my fun V k => (placeIn_any so ao uo bo sn sc an ac tn tc bn bc s a t b V (r1.below k (Nat.le_refl _)) s1 (r2.below k (Nat.le_refl _)) s2 mx (r3.below k (Nat.le_refl _)) s3 (r4.below k (Nat.le_refl _)) s4 my).mono fun e w' ⟨o1, n1, c1, o2, n2, c2, h, f1, f2, bb⟩ => ⟨o1, n1, c1, o2, n2, c2, _, _, h, f1, f2, ⟨rfl, rfl⟩, bb⟩, fun so ao uo bo sn sc an ac tn tc bn bc w r1 s1 r2 s2 r3 s3 r4 s4 => rd_34 so ao uo bo sn sc an ac tn tc bn bc s a t b w r1 s1 r2 s2 r3 s3 r4 s4 mx my⟩
theorem bd_35 (mx : mayA s a = 0) (my : mayA t b = 0) : ∃ E z, DyaQ 14 35 s a t b E z ∧ DyaQ 18 35 s a t b E z :=
  ⟨0, (s.take (frN s.length t.length), ecL (tI (itX t b) (itN t)) (cux s a (frN s.length t.length)) (cun s (frN s.length t.length))), fun so ao uo bo sn sc an ac tn tc bn bc w r1 s1 r2 s2 r3 s3 r4 s4 => by
    have e1 := r1.len
    have e3 := r3.len
    rw [e1, e3]
    exact dyadS_in so ao uo bo sn sc an ac tn tc bn bc s a t b _ 0 w r1 r2 r3 r4 mx my fun V k => (isIn_any so ao uo bo sn sc an ac tn tc bn bc s a t b V (r1.below k (Nat.le_refl _)) s1 (r2.below k (Nat.le_refl _)) s2 mx (r3.below k (Nat.le_refl _)) s3 (r4.below k (Nat.le_refl _)) s4 my).mono fun e w' ⟨o1, n1, c1, o2, n2, c2, h, f1, f2, bb⟩ => ⟨o1, n1, c1, o2, n2, c2, _, _, h, f1, f2, ⟨rfl, rfl⟩, bb⟩, fun so ao uo bo sn sc an ac tn tc bn bc w r1 s1 r2 s2 r3 s3 r4 s4 => rd_35 so ao uo bo sn sc an ac tn tc bn bc s a t b w r1 s1 r2 s2 r3 s3 r4 s4 mx my⟩
theorem bd_18 (mx : mayA s a = 0) (my : mayA t b = 0) : ∃ E z, DyaQ 14 18 s a t b E z ∧ DyaQ 18 18 s a t b E z :=
  ⟨0, (((flt (woB (itX s a) (itX t b) (itN t)) (itN s)).length : Int) :: s.drop 1, chA (itX s a) (flt (woB (itX s a) (itX t b) (itN t)) (itN s)) (flt (woB (itX s a) (itX t b) (itN t)) (itN s)).length), fun so ao uo bo sn sc an ac tn tc bn bc w r1 s1 r2 s2 r3 s3 r4 s4 => dyadS_not so ao uo bo sn sc an ac tn tc bn bc s a t b _ 0 w r1 r2 r3 r4 mx my fun V k => without_any so ao uo bo sn sc an ac tn tc bn bc s a t b V (r1.below k (Nat.le_refl _)) s1 (r2.below k (Nat.le_refl _)) s2 mx (r3.below k (Nat.le_refl _)) s3 (r4.below k (Nat.le_refl _)) s4 my, fun so ao uo bo sn sc an ac tn tc bn bc w r1 s1 r2 s2 r3 s3 r4 s4 => rd_18 so ao uo bo sn sc an ac tn tc bn bc s a t b w r1 s1 r2 s2 r3 s3 r4 s4 mx my⟩
theorem bd_19 (mx : mayA s a = 0) (my : mayA t b = 0) : ∃ E z, DyaQ 14 19 s a t b E z ∧ DyaQ 18 19 s a t b E z :=
  ⟨0, ([], [if eqA s a t b then 1 else 0]), fun so ao uo bo sn sc an ac tn tc bn bc w r1 s1 r2 s2 r3 s3 r4 s4 => dyadS_match so ao uo bo sn sc an ac tn tc bn bc s a t b _ 0 w r1 r2 r3 r4 mx my fun V k => match_any so ao uo bo sn sc an ac tn tc bn bc s a t b V (r1.below k (Nat.le_refl _)) (r2.below k (Nat.le_refl _)) (r3.below k (Nat.le_refl _)) (r4.below k (Nat.le_refl _)), fun so ao uo bo sn sc an ac tn tc bn bc w r1 s1 r2 s2 r3 s3 r4 s4 => rd_19 so ao uo bo sn sc an ac tn tc bn bc s a t b w r1 s1 r2 s2 r3 s3 r4 s4 mx my⟩
theorem bd_27 (mx : mayA s a = 0) (my : mayA t b = 0) : ∃ E z, DyaQ 14 27 s a t b E z ∧ DyaQ 18 27 s a t b E z := by
  by_cases h0 : s = []
  · subst h0
    have han : ∀ {w : World} {ao : Option Addr} {an : Nat}, Rd w ao an a → 0 < an := fun r2 => by
      have := (mayA_zero mx).2
      rw [r2.len] at this
      simp [pr] at this
      omega
    refine ⟨itmE t b (nth a 0), (itmS t b (nth a 0), itmA t b (nth a 0)), fun so ao uo bo sn sc an ac tn tc bn bc w r1 s1 r2 s2 r3 s3 r4 s4 => ?_, fun so ao uo bo sn sc an ac tn tc bn bc w r1 s1 r2 s2 r3 s3 r4 s4 => ?_⟩
    · obtain rfl : sn = 0 := r1.len.symm
      exact dyadS_from so ao uo bo 0 sc an ac tn tc bn bc [] a t b _ _ w r1 r2 r3 r4 mx my fun V k => from_ok so ao uo bo sc an ac tn tc bn bc (nth a 0) a t b V (r2.below k (Nat.le_refl _)) (han r2) rfl (r3.below k (Nat.le_refl _)) s3 (r4.below k (Nat.le_refl _)) s4
    · obtain rfl : sn = 0 := r1.len.symm
      exact rd_27 _ _ _ so ao uo bo 0 sc an ac tn tc bn bc [] a t b w r1 s1 r2 s2 r3 s3 r4 s4 mx my fun V k => refFrom7_ok so ao uo bo sc an ac tn tc bn bc a t b (nth a 0) V (r2.below k (Nat.le_refl _)) (han r2) rfl (r3.below k (Nat.le_refl _)) s3 (r4.below k (Nat.le_refl _)) s4 my
  · refine ⟨12, ([], []), fun so ao uo bo sn sc an ac tn tc bn bc w r1 s1 r2 s2 r3 s3 r4 s4 => ?_, fun so ao uo bo sn sc an ac tn tc bn bc w r1 s1 r2 s2 r3 s3 r4 s4 => ?_⟩
    · have hn : 0 < sn := by rw [← r1.len]; exact List.length_pos_iff.2 h0
      exact dyadS_from so ao uo bo sn sc an ac tn tc bn bc s a t b _ _ w r1 r2 r3 r4 mx my fun V k => from_bad so ao uo bo sn sc an ac tn tc bn bc V hn
    · have hn : 0 < sn := by rw [← r1.len]; exact List.length_pos_iff.2 h0
      exact rd_27 _ _ _ so ao uo bo sn sc an ac tn tc bn bc s a t b w r1 s1 r2 s2 r3 s3 r4 s4 mx my fun V k => refFrom7_bad so ao uo bo sn sc an ac tn tc bn bc V hn
theorem bd_37 (mx : mayA s a = 0) (my : mayA t b = 0) : ∃ E z, DyaQ 14 37 s a t b E z ∧ DyaQ 18 37 s a t b E z := by
  by_cases het : tal s = tal t
  · by_cases hp : ∃ ps, Pls (cUp (itX t b)) (itN t) ps
    · obtain ⟨ps, P⟩ := hp
      exact ⟨0, ((itN t : Int) :: s.drop 1, chA (itX s a) ps (itN t)), fun so ao uo bo sn sc an ac tn tc bn bc w r1 s1 r2 s2 r3 s3 r4 s4 =>
        (dyadS_up so ao uo bo sn sc an ac tn tc bn bc s a t b _ _ w r1 r2 r3 r4 mx my fun V k => sortUp_any so ao uo bo sn sc an ac tn tc bn bc s a t b V (r1.below k (Nat.le_refl _)) s1 (r2.below k (Nat.le_refl _)) s2 mx (r3.below k (Nat.le_refl _)) s3 (r4.below k (Nat.le_refl _)) s4 my het).mono fun e w' h => h.mono fun S A ⟨qs, Q, e1, e2⟩ => ⟨e1, by rw [e2, Pls.uniq (cUp3 _ _) Q P]⟩, fun so ao uo bo sn sc an ac tn tc bn bc w r1 s1 r2 s2 r3 s3 r4 s4 =>
        (rd_37 so ao uo bo sn sc an ac tn tc bn bc s a t b w r1 s1 r2 s2 r3 s3 r4 s4 mx my het).mono fun e w' h => h.mono fun S A ⟨qs, Q, e1, e2⟩ => ⟨e1, by rw [e2, Pls.uniq (cUp3 _ _) Q P]⟩⟩
    · exact ⟨0, ([], []), fun so ao uo bo sn sc an ac tn tc bn bc w r1 s1 r2 s2 r3 s3 r4 s4 =>
        (dyadS_up so ao uo bo sn sc an ac tn tc bn bc s a t b _ _ w r1 r2 r3 r4 mx my fun V k => sortUp_any so ao uo bo sn sc an ac tn tc bn bc s a t b V (r1.below k (Nat.le_refl _)) s1 (r2.below k (Nat.le_refl _)) s2 mx (r3.below k (Nat.le_refl _)) s3 (r4.below k (Nat.le_refl _)) s4 my het).mono fun e w' h => h.mono fun S A ⟨qs, Q, e1, e2⟩ => absurd ⟨_, Q⟩ hp, fun so ao uo bo sn sc an ac tn tc bn bc w r1 s1 r2 s2 r3 s3 r4 s4 =>
        (rd_37 so ao uo bo sn sc an ac tn tc bn bc s a t b w r1 s1 r2 s2 r3 s3 r4 s4 mx my het).mono fun e w' h => h.mono fun S A ⟨qs, Q, e1, e2⟩ => absurd ⟨_, Q⟩ hp⟩
  · exact ⟨11, ([], []), fun so ao uo bo sn sc an ac tn tc bn bc w r1 s1 r2 s2 r3 s3 r4 s4 => dyadS_up so ao uo bo sn sc an ac tn tc bn bc s a t b _ _ w r1 r2 r3 r4 mx my fun V k => sortUp_no so ao uo bo sn sc an ac tn tc bn bc s a t b V (r1.below k (Nat.le_refl _)) (r2.below k (Nat.le_refl _)) mx (r3.below k (Nat.le_refl _)) (r4.below k (Nat.le_refl _)) my het, fun so ao uo bo sn sc an ac tn tc bn bc w r1 s1 r2 s2 r3 s3 r4 s4 => rd_37no so ao uo bo sn sc an ac tn tc bn bc s a t b w r1 s1 r2 s2 r3 s3 r4 s4 mx my het⟩
theorem bd_38 (mx : mayA s a = 0) (my : mayA t b = 0) : ∃ E z, DyaQ 14 38 s a t b E z ∧ DyaQ 18 38 s a t b E z := by
  by_cases het : tal s = tal t
  · by_cases hp : ∃ ps, Pls (cDn (itX t b)) (itN t) ps
    · obtain ⟨ps, P⟩ := hp
      exact ⟨0, ((itN t : Int) :: s.drop 1, chA (itX s a) ps (itN t)), fun so ao uo bo sn sc an ac tn tc bn bc w r1 s1 r2 s2 r3 s3 r4 s4 =>
        (dyadS_down so ao uo bo sn sc an ac tn tc bn bc s a t b _ _ w r1 r2 r3 r4 mx my fun V k => sortDown_any so ao uo bo sn sc an ac tn tc bn bc s a t b V (r1.below k (Nat.le_refl _)) s1 (r2.below k (Nat.le_refl _)) s2 mx (r3.below k (Nat.le_refl _)) s3 (r4.below k (Nat.le_refl _)) s4 my het).mono fun e w' h => h.mono fun S A ⟨qs, Q, e1, e2⟩ => ⟨e1, by rw [e2, Pls.uniq (cDn3 _ _) Q P]⟩, fun so ao uo bo sn sc an ac tn tc bn bc w r1 s1 r2 s2 r3 s3 r4 s4 =>
        (rd_38 so ao uo bo sn sc an ac tn tc bn bc s a t b w r1 s1 r2 s2 r3 s3 r4 s4 mx my het).mono fun e w' h => h.mono fun S A ⟨qs, Q, e1, e2⟩ => ⟨e1, by rw [e2, Pls.uniq (cDn3 _ _) Q P]⟩⟩
    · exact ⟨0, ([], []), fun so ao uo bo sn sc an ac tn tc bn bc w r1 s1 r2 s2 r3 s3 r4 s4 =>
        (dyadS_down so ao uo bo sn sc an ac tn tc bn bc s a t b _ _ w r1 r2 r3 r4 mx my fun V k => sortDown_any so ao uo bo sn sc an ac tn tc bn bc s a t b V (r1.below k (Nat.le_refl _)) s1 (r2.below k (Nat.le_refl _)) s2 mx (r3.below k (Nat.le_refl _)) s3 (r4.below k (Nat.le_refl _)) s4 my het).mono fun e w' h => h.mono fun S A ⟨qs, Q, e1, e2⟩ => absurd ⟨_, Q⟩ hp, fun so ao uo bo sn sc an ac tn tc bn bc w r1 s1 r2 s2 r3 s3 r4 s4 =>
        (rd_38 so ao uo bo sn sc an ac tn tc bn bc s a t b w r1 s1 r2 s2 r3 s3 r4 s4 mx my het).mono fun e w' h => h.mono fun S A ⟨qs, Q, e1, e2⟩ => absurd ⟨_, Q⟩ hp⟩
  · exact ⟨11, ([], []), fun so ao uo bo sn sc an ac tn tc bn bc w r1 s1 r2 s2 r3 s3 r4 s4 => dyadS_down so ao uo bo sn sc an ac tn tc bn bc s a t b _ _ w r1 r2 r3 r4 mx my fun V k => sortDown_no so ao uo bo sn sc an ac tn tc bn bc s a t b V (r1.below k (Nat.le_refl _)) (r2.below k (Nat.le_refl _)) mx (r3.below k (Nat.le_refl _)) (r4.below k (Nat.le_refl _)) my het, fun so ao uo bo sn sc an ac tn tc bn bc w r1 s1 r2 s2 r3 s3 r4 s4 => rd_38no so ao uo bo sn sc an ac tn tc bn bc s a t b w r1 s1 r2 s2 r3 s3 r4 s4 mx my het⟩
theorem bd_lack (O : Int) (mx : mayA s a = 0) (my : mayA t b = 0) (hb : bdS O 2 true = 16) (h : ∀ (so ao uo bo : Option Addr) (sn sc an ac tn tc bn bc : Nat) (w : World), Rd w so sn s → Rd w ao an a → Rd w uo tn t → Rd w bo bn b → Calls Tryz.prog 14 #[.int .i64 O, .agg #[.slice so sn sc, .slice ao an ac], .agg #[.slice uo tn tc, .slice bo bn bc]] w fun e w' => AnsQ w (fun S A => S = [] ∧ A = []) 16 e w') : ∃ E z, DyaQ 14 O s a t b E z ∧ DyaQ 18 O s a t b E z :=
  ⟨16, ([], []), fun so ao uo bo sn sc an ac tn tc bn bc w r1 s1 r2 s2 r3 s3 r4 s4 => h so ao uo bo sn sc an ac tn tc bn bc w r1 r2 r3 r4, fun so ao uo bo sn sc an ac tn tc bn bc w r1 s1 r2 s2 r3 s3 r4 s4 => rd_bad O 16 true so ao uo bo sn sc an ac tn tc bn bc s a t b w r1 s1 r2 s2 r3 s3 r4 s4 (ok2 mx my) hb (by decide)⟩
end

theorem bd_any (O : Int) (s a t b : List Int) : ∃ E z, DyaQ 14 O s a t b E z ∧ DyaQ 18 O s a t b E z := by
  by_cases mx : mayA s a = 0
  · by_cases my : mayA t b = 0
    · by_cases h27 : O = 27
      · subst h27; exact bd_27 mx my
      by_cases h34 : O = 34
      · subst h34; exact bd_34 mx my
      by_cases h35 : O = 35
      · subst h35; exact bd_35 mx my
      by_cases h37 : O = 37
      · subst h37; exact bd_37 mx my
      by_cases h38 : O = 38
      · subst h38; exact bd_38 mx my
      by_cases h18 : O = 18
      · subst h18; exact bd_18 mx my
      by_cases h19 : O = 19
      · subst h19; exact bd_19 mx my
      by_cases h36 : O = 36
      · subst h36; exact bd_lack 36 mx my (by decide) fun so ao uo bo sn sc an ac tn tc bn bc w r1 r2 r3 r4 => dyadS_l36E so ao uo bo sn sc an ac tn tc bn bc s a t b w r1 r2 r3 r4 mx my
      by_cases h11 : O = 11
      · subst h11; exact bd_lack 11 mx my (by decide) fun so ao uo bo sn sc an ac tn tc bn bc w r1 r2 r3 r4 => dyadS_l11E so ao uo bo sn sc an ac tn tc bn bc s a t b w r1 r2 r3 r4 mx my
      by_cases h10 : O = 10
      · subst h10; exact bd_lack 10 mx my (by decide) fun so ao uo bo sn sc an ac tn tc bn bc w r1 r2 r3 r4 => dyadS_l10E so ao uo bo sn sc an ac tn tc bn bc s a t b w r1 r2 r3 r4 mx my
      have hn : O ≠ 27 ∧ O ≠ 34 ∧ O ≠ 35 ∧ O ≠ 36 ∧ O ≠ 11 ∧ O ≠ 10 ∧ O ≠ 37 ∧ O ≠ 38 ∧ O ≠ 18 ∧ O ≠ 19 := ⟨h27, h34, h35, h36, h11, h10, h37, h38, h18, h19⟩
      exact ⟨1, ([], []), fun so ao uo bo sn sc an ac tn tc bn bc w r1 s1 r2 s2 r3 s3 r4 s4 => dyadS_noneE O (none_of hn) so ao uo bo sn sc an ac tn tc bn bc s a t b w r1 r2 r3 r4 mx my, fun so ao uo bo sn sc an ac tn tc bn bc w r1 s1 r2 s2 r3 s3 r4 s4 => rd_bad O 1 true so ao uo bo sn sc an ac tn tc bn bc s a t b w r1 s1 r2 s2 r3 s3 r4 s4 (ok2 mx my) (row_none hn 2 true) (by decide)⟩
    · exact ⟨1, ([], []), fun so ao uo bo sn sc an ac tn tc bn bc w r1 s1 r2 s2 r3 s3 r4 s4 => dyadS_bady O so ao uo bo sn sc an ac tn tc bn bc s a t b w r1 r2 r3 r4 mx my, fun so ao uo bo sn sc an ac tn tc bn bc w r1 s1 r2 s2 r3 s3 r4 s4 => rd_bad O 1 false so ao uo bo sn sc an ac tn tc bn bc s a t b w r1 s1 r2 s2 r3 s3 r4 s4 (no2 fun q => my q.2) rfl (by decide)⟩
  · exact ⟨1, ([], []), fun so ao uo bo sn sc an ac tn tc bn bc w r1 s1 r2 s2 r3 s3 r4 s4 => dyadS_badx O so ao uo bo sn sc an ac tn tc bn bc s a t b w r1 r2 r3 r4 mx, fun so ao uo bo sn sc an ac tn tc bn bc w r1 s1 r2 s2 r3 s3 r4 s4 => rd_bad O 1 false so ao uo bo sn sc an ac tn tc bn bc s a t b w r1 s1 r2 s2 r3 s3 r4 s4 (no2 fun q => mx q.1) rfl (by decide)⟩

set_option maxHeartbeats 2000000 in
set_option maxRecDepth 20000 in
theorem asked2 (O N : Int) (so ao uo bo : Option Addr) (sn sc an ac tn tc bn bc : Nat) (s a t b : List Int) (E : Int) (S A : List Int) (hz : MonQ 12 O t b E (S, A)) (w : World) (rs : Rd w so sn s) (ra : Rd w ao an a) (rt : Rd w uo tn t) (rb : Rd w bo bn b) (ss : Sl so sn sc) (sa : Sl ao an ac) (st : Sl uo tn tc) (sb : Sl bo bn bc) :
    Calls Tryz.prog 9 #[.agg #[.int .i64 2, .int .i64 O, .int .i64 N, .slice so sn sc, .slice ao an ac, .slice uo tn tc, .slice bo bn bc]] w fun e w' => ∃ o1 n1 c1 o2 n2 c2, e = .returned (.tuple #[.agg #[.slice o1 n1 c1, .slice o2 n2 c2], .int .i64 E]) ∧ Ft 3 w' w.heap.size o1 n1 c1 S ∧ Ft 2 w' w.heap.size o2 n2 c2 A ∧ Below w.heap.size w w' := by
  have k0 := box_below w (.cells #[.int .i64 2, .int .i64 O, .int .i64 N, .slice so sn sc, .slice ao an ac, .slice uo tn tc, .slice bo bn bc] 32)
  have k1 := box_below (w.alloc (.cells #[.int .i64 2, .int .i64 O, .int .i64 N, .slice so sn sc, .slice ao an ac, .slice uo tn tc, .slice bo bn bc] 32)) (.cells #[.slice none 0 0, .slice none 0 0] 30)
  have K1 := k0.trans (k1.mono k0.size)
  have r1 := allocNew (w.alloc (.cells #[.int .i64 2, .int .i64 O, .int .i64 N, .slice so sn sc, .slice ao an ac, .slice uo tn tc, .slice bo bn bc] 32)) (.cells #[.slice none 0 0, .slice none 0 0] 30)
  rw [World.size_alloc] at r1
  have cM := hz uo bo tn tc bn bc _ (rt.below K1 (Nat.le_refl _)) st (rb.below K1 (Nat.le_refl _)) sb
  have h2 := k1.size
  clear hz
  go_enter Tryz.func9, Tryz.ntmps9
  go_wp2_with (go_at_call 12; (with_reducible refine cM.mono ?_); rintro e W2 ⟨o1, n1, c1, o2, n2, c2, S', A', rfl, f1, f2, ⟨hS, hA⟩, k2⟩; have K2 := K1.trans (k2.mono K1.size); have r2 := (k2.block _ (Array.getElem?_eq_some_iff.1 r1).1).trans r1; have kb := box_below W2 (.cells #[.slice o1 n1 c1, .slice o2 n2 c2] 30); have K3 := K2.trans (kb.mono K2.size); have r3 := (kb.block _ (Array.getElem?_eq_some_iff.1 r2).1).trans r2; have g1 := f1.below kb (Nat.le_refl _); have g2 := f2.below kb (Nat.le_refl _); obtain ⟨y0, y1, _, _⟩ := box2 r3)
  (try simp only [Exit.inBlock, Exit.then])
  refine bodyPost_ret (v := .tuple #[.agg #[.slice o1 n1 c1, .slice o2 n2 c2], .int .i64 E]) (by rw [results_cell_tmp rfl]; go_simp) rfl ?_
  have hS' : S' = S := hS
  have hA' : A' = A := hA
  rw [hS'] at g1
  rw [hA'] at g2
  exact ⟨_, _, _, _, _, _, rfl, (g1.keep1 (set2 _ _ _ _ _ _) (fun j off e e' => ftx_box g1 e r3 e')).mono (by simp; omega), (g2.keep1 (set2 _ _ _ _ _ _) (fun j off e e' => ftx_box g2 e r3 e')).mono (by simp; omega), below_set2 _ _ _ _ K3 (by omega) (Nat.le_refl _)⟩

set_option maxHeartbeats 2000000 in
set_option maxRecDepth 20000 in
theorem asked3 (O N : Int) (so ao uo bo : Option Addr) (sn sc an ac tn tc bn bc : Nat) (s a t b : List Int) (E : Int) (S A : List Int) (hz : DyaQ 14 O s a t b E (S, A)) (w : World) (rs : Rd w so sn s) (ra : Rd w ao an a) (rt : Rd w uo tn t) (rb : Rd w bo bn b) (ss : Sl so sn sc) (sa : Sl ao an ac) (st : Sl uo tn tc) (sb : Sl bo bn bc) :
    Calls Tryz.prog 9 #[.agg #[.int .i64 3, .int .i64 O, .int .i64 N, .slice so sn sc, .slice ao an ac, .slice uo tn tc, .slice bo bn bc]] w fun e w' => ∃ o1 n1 c1 o2 n2 c2, e = .returned (.tuple #[.agg #[.slice o1 n1 c1, .slice o2 n2 c2], .int .i64 E]) ∧ Ft 3 w' w.heap.size o1 n1 c1 S ∧ Ft 2 w' w.heap.size o2 n2 c2 A ∧ Below w.heap.size w w' := by
  have k0 := box_below w (.cells #[.int .i64 3, .int .i64 O, .int .i64 N, .slice so sn sc, .slice ao an ac, .slice uo tn tc, .slice bo bn bc] 32)
  have k1 := box_below (w.alloc (.cells #[.int .i64 3, .int .i64 O, .int .i64 N, .slice so sn sc, .slice ao an ac, .slice uo tn tc, .slice bo bn bc] 32)) (.cells #[.slice none 0 0, .slice none 0 0] 30)
  have K1 := k0.trans (k1.mono k0.size)
  have r1 := allocNew (w.alloc (.cells #[.int .i64 3, .int .i64 O, .int .i64 N, .slice so sn sc, .slice ao an ac, .slice uo tn tc, .slice bo bn bc] 32)) (.cells #[.slice none 0 0, .slice none 0 0] 30)
  rw [World.size_alloc] at r1
  have cM := hz so ao uo bo sn sc an ac tn tc bn bc _ (rs.below K1 (Nat.le_refl _)) ss (ra.below K1 (Nat.le_refl _)) sa (rt.below K1 (Nat.le_refl _)) st (rb.below K1 (Nat.le_refl _)) sb
  have h2 := k1.size
  clear hz
  go_enter Tryz.func9, Tryz.ntmps9
  go_wp2_with (go_at_call 14; (with_reducible refine cM.mono ?_); rintro e W2 ⟨o1, n1, c1, o2, n2, c2, S', A', rfl, f1, f2, ⟨hS, hA⟩, k2⟩; have K2 := K1.trans (k2.mono K1.size); have r2 := (k2.block _ (Array.getElem?_eq_some_iff.1 r1).1).trans r1; have kb := box_below W2 (.cells #[.slice o1 n1 c1, .slice o2 n2 c2] 30); have K3 := K2.trans (kb.mono K2.size); have r3 := (kb.block _ (Array.getElem?_eq_some_iff.1 r2).1).trans r2; have g1 := f1.below kb (Nat.le_refl _); have g2 := f2.below kb (Nat.le_refl _); obtain ⟨y0, y1, _, _⟩ := box2 r3)
  (try simp only [Exit.inBlock, Exit.then])
  refine bodyPost_ret (v := .tuple #[.agg #[.slice o1 n1 c1, .slice o2 n2 c2], .int .i64 E]) (by rw [results_cell_tmp rfl]; go_simp) rfl ?_
  have hS' : S' = S := hS
  have hA' : A' = A := hA
  rw [hS'] at g1
  rw [hA'] at g2
  exact ⟨_, _, _, _, _, _, rfl, (g1.keep1 (set2 _ _ _ _ _ _) (fun j off e e' => ftx_box g1 e r3 e')).mono (by simp; omega), (g2.keep1 (set2 _ _ _ _ _ _) (fun j off e e' => ftx_box g2 e r3 e')).mono (by simp; omega), below_set2 _ _ _ _ K3 (by omega) (Nat.le_refl _)⟩

set_option maxHeartbeats 2000000 in
set_option maxRecDepth 20000 in
theorem meant2 (O N : Int) (so ao uo bo : Option Addr) (sn sc an ac tn tc bn bc : Nat) (s a t b : List Int) (E : Int) (S A : List Int) (hz : MonQ 17 O t b E (S, A)) (w : World) (rs : Rd w so sn s) (ra : Rd w ao an a) (rt : Rd w uo tn t) (rb : Rd w bo bn b) (ss : Sl so sn sc) (sa : Sl ao an ac) (st : Sl uo tn tc) (sb : Sl bo bn bc) :
    Calls Tryz.prog 7 #[.agg #[.int .i64 2, .int .i64 O, .int .i64 N, .slice so sn sc, .slice ao an ac, .slice uo tn tc, .slice bo bn bc]] w fun e w' => ∃ o1 n1 c1 o2 n2 c2, e = .returned (.tuple #[.agg #[.slice o1 n1 c1, .slice o2 n2 c2], .int .i64 E]) ∧ Ft 3 w' w.heap.size o1 n1 c1 S ∧ Ft 2 w' w.heap.size o2 n2 c2 A ∧ Below w.heap.size w w' := by
  have k0 := box_below w (.cells #[.int .i64 2, .int .i64 O, .int .i64 N, .slice so sn sc, .slice ao an ac, .slice uo tn tc, .slice bo bn bc] 32)
  have k1 := box_below (w.alloc (.cells #[.int .i64 2, .int .i64 O, .int .i64 N, .slice so sn sc, .slice ao an ac, .slice uo tn tc, .slice bo bn bc] 32)) (.cells #[.slice none 0 0, .slice none 0 0] 30)
  have K1 := k0.trans (k1.mono k0.size)
  have r1 := allocNew (w.alloc (.cells #[.int .i64 2, .int .i64 O, .int .i64 N, .slice so sn sc, .slice ao an ac, .slice uo tn tc, .slice bo bn bc] 32)) (.cells #[.slice none 0 0, .slice none 0 0] 30)
  rw [World.size_alloc] at r1
  have cM := hz uo bo tn tc bn bc _ (rt.below K1 (Nat.le_refl _)) st (rb.below K1 (Nat.le_refl _)) sb
  have h2 := k1.size
  clear hz
  go_enter Tryz.func7, Tryz.ntmps7
  go_wp2_with (go_at_call 17; (with_reducible refine cM.mono ?_); rintro e W2 ⟨o1, n1, c1, o2, n2, c2, S', A', rfl, f1, f2, ⟨hS, hA⟩, k2⟩; have K2 := K1.trans (k2.mono K1.size); have r2 := (k2.block _ (Array.getElem?_eq_some_iff.1 r1).1).trans r1; have kb := box_below W2 (.cells #[.slice o1 n1 c1, .slice o2 n2 c2] 30); have K3 := K2.trans (kb.mono K2.size); have r3 := (kb.block _ (Array.getElem?_eq_some_iff.1 r2).1).trans r2; have g1 := f1.below kb (Nat.le_refl _); have g2 := f2.below kb (Nat.le_refl _); obtain ⟨y0, y1, _, _⟩ := box2 r3)
  (try simp only [Exit.inBlock, Exit.then])
  refine bodyPost_ret (v := .tuple #[.agg #[.slice o1 n1 c1, .slice o2 n2 c2], .int .i64 E]) (by rw [results_cell_tmp rfl]; go_simp) rfl ?_
  have hS' : S' = S := hS
  have hA' : A' = A := hA
  rw [hS'] at g1
  rw [hA'] at g2
  exact ⟨_, _, _, _, _, _, rfl, (g1.keep1 (set2 _ _ _ _ _ _) (fun j off e e' => ftx_box g1 e r3 e')).mono (by simp; omega), (g2.keep1 (set2 _ _ _ _ _ _) (fun j off e e' => ftx_box g2 e r3 e')).mono (by simp; omega), below_set2 _ _ _ _ K3 (by omega) (Nat.le_refl _)⟩

set_option maxHeartbeats 2000000 in
set_option maxRecDepth 20000 in
theorem meant3 (O N : Int) (so ao uo bo : Option Addr) (sn sc an ac tn tc bn bc : Nat) (s a t b : List Int) (E : Int) (S A : List Int) (hz : DyaQ 18 O s a t b E (S, A)) (w : World) (rs : Rd w so sn s) (ra : Rd w ao an a) (rt : Rd w uo tn t) (rb : Rd w bo bn b) (ss : Sl so sn sc) (sa : Sl ao an ac) (st : Sl uo tn tc) (sb : Sl bo bn bc) :
    Calls Tryz.prog 7 #[.agg #[.int .i64 3, .int .i64 O, .int .i64 N, .slice so sn sc, .slice ao an ac, .slice uo tn tc, .slice bo bn bc]] w fun e w' => ∃ o1 n1 c1 o2 n2 c2, e = .returned (.tuple #[.agg #[.slice o1 n1 c1, .slice o2 n2 c2], .int .i64 E]) ∧ Ft 3 w' w.heap.size o1 n1 c1 S ∧ Ft 2 w' w.heap.size o2 n2 c2 A ∧ Below w.heap.size w w' := by
  have k0 := box_below w (.cells #[.int .i64 3, .int .i64 O, .int .i64 N, .slice so sn sc, .slice ao an ac, .slice uo tn tc, .slice bo bn bc] 32)
  have k1 := box_below (w.alloc (.cells #[.int .i64 3, .int .i64 O, .int .i64 N, .slice so sn sc, .slice ao an ac, .slice uo tn tc, .slice bo bn bc] 32)) (.cells #[.slice none 0 0, .slice none 0 0] 30)
  have K1 := k0.trans (k1.mono k0.size)
  have r1 := allocNew (w.alloc (.cells #[.int .i64 3, .int .i64 O, .int .i64 N, .slice so sn sc, .slice ao an ac, .slice uo tn tc, .slice bo bn bc] 32)) (.cells #[.slice none 0 0, .slice none 0 0] 30)
  rw [World.size_alloc] at r1
  have cM := hz so ao uo bo sn sc an ac tn tc bn bc _ (rs.below K1 (Nat.le_refl _)) ss (ra.below K1 (Nat.le_refl _)) sa (rt.below K1 (Nat.le_refl _)) st (rb.below K1 (Nat.le_refl _)) sb
  have h2 := k1.size
  clear hz
  go_enter Tryz.func7, Tryz.ntmps7
  go_wp2_with (go_at_call 18; (with_reducible refine cM.mono ?_); rintro e W2 ⟨o1, n1, c1, o2, n2, c2, S', A', rfl, f1, f2, ⟨hS, hA⟩, k2⟩; have K2 := K1.trans (k2.mono K1.size); have r2 := (k2.block _ (Array.getElem?_eq_some_iff.1 r1).1).trans r1; have kb := box_below W2 (.cells #[.slice o1 n1 c1, .slice o2 n2 c2] 30); have K3 := K2.trans (kb.mono K2.size); have r3 := (kb.block _ (Array.getElem?_eq_some_iff.1 r2).1).trans r2; have g1 := f1.below kb (Nat.le_refl _); have g2 := f2.below kb (Nat.le_refl _); obtain ⟨y0, y1, _, _⟩ := box2 r3)
  (try simp only [Exit.inBlock, Exit.then])
  refine bodyPost_ret (v := .tuple #[.agg #[.slice o1 n1 c1, .slice o2 n2 c2], .int .i64 E]) (by rw [results_cell_tmp rfl]; go_simp) rfl ?_
  have hS' : S' = S := hS
  have hA' : A' = A := hA
  rw [hS'] at g1
  rw [hA'] at g2
  exact ⟨_, _, _, _, _, _, rfl, (g1.keep1 (set2 _ _ _ _ _ _) (fun j off e e' => ftx_box g1 e r3 e')).mono (by simp; omega), (g2.keep1 (set2 _ _ _ _ _ _) (fun j off e e' => ftx_box g2 e r3 e')).mono (by simp; omega), below_set2 _ _ _ _ K3 (by omega) (Nat.le_refl _)⟩
end Go.Proofs.YtmepcenbaohcoaaGreat
