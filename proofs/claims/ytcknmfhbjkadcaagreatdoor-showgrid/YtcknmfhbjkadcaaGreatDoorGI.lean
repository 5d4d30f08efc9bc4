
/- ShowGrid: every array. -/

import Derived.Test.YtcknmfhbjkadcaaGreatDoorGH

namespace Go.Proofs.YtcknmfhbjkadcaaGreatDoor

open Go.RowKit

set_option linter.unusedVariables false

theorem txt_high {S' A : List Int} {m R : Nat} (hm : 0 < m) (hA : A.length = (R + 1) * m) (h1 : 1 ≤ S'.length) : txt (S' ++ [(m : Int)]) A = lineT S' A m A.length 0 ++ glue (rws S' A m A.length R) := by
  have e : txt (S' ++ [(m : Int)]) A = txK (S' ++ [(m : Int)]) A m A.length ((R + 1) * m) := by
    unfold txt
    rw [if_neg (by simp; omega), show (S' ++ [(m : Int)]).length - 1 = S'.length by simp, nth_last, ← hA]; simp
  rw [e, tx_all hm]
theorem txt_len {S A : List Int} (hA : In64 A) (h8 : S.length ≤ 8) (h2 : 2 ≤ S.length) : (txt S A).length ≤ 51 * A.length := by
  unfold txt
  rw [if_neg (by omega)]
  exact txK_len S A _ _ hA h8 _
theorem grid_high (so ao : Option Addr) (sn sc an ac : Nat) (S A : List Int) (w : World) (h1 : Rd w so sn S) (ss : Sl so sn sc) (h2 : Rd w ao an A) (sa : Sl ao an ac) (T : Tg w) (my : mayA S A = 0) (hn : 1 ≤ an) (hs : 2 ≤ sn) :
    Calls Tryz.prog 3 #[.agg #[.slice so sn sc, .slice ao an ac]] w fun e w' => e = .returned (.bool true) ∧ Below w.heap.size w w' := by
  have l1 := h1.len
  have l2 := h2.len
  have hne : A ≠ [] := fun e => by rw [e] at l2; simp at l2; omega
  have h8 := (mayF_zero (mayA_zero my).1).2.1
  have h4 : an ≤ 4096 := by have := pr_le (mayA_zero my).1; have := (mayA_zero my).2; omega
  have i2 := in64_of h2
  obtain ⟨S', m, R, rfl, hm, hA, hpr, hmf, hsp⟩ := grid_facts my (by omega) hne
  have l3 : S'.length + 1 = sn := by rw [← l1]; simp
  have G := grd_of S' A m R hm hA
  have tl := txt_len i2 (S := S' ++ [(m : Int)]) h8 (by omega)
  have th := txt_high (S' := S') hm hA (by omega)
  have sh : ((lineT S' A m A.length 0 :: lns (rws S' A m A.length R)).getD 0 []).length < 4294967281 := by
    show (lineT S' A m A.length 0).length < _
    have := congrArg List.length th
    rw [List.length_append] at this
    omega
  have ll : (lineT S' A m A.length 0 :: lns (rws S' A m A.length R)).length ≤ 1000000 := by
    rw [← hsp]
    have e := split_strs (txt (S' ++ [(m : Int)]) A)
    have c := Lib.countB_le ⟨#[10]⟩ (by decide) _ ⟨(txt (S' ++ [(m : Int)]) A).toArray⟩ (Nat.le_refl _)
    have l := Lib.splitB_all ⟨#[10]⟩ (by decide) 0 (Lib.countB ⟨(txt (S' ++ [(m : Int)]) A).toArray⟩ ⟨#[10]⟩) ⟨(txt (S' ++ [(m : Int)]) A).toArray⟩ rfl
    have e2 := congrArg List.length e
    rw [List.length_map, strs_len, l] at e2
    rw [bs_size] at c
    omega
  have hmb : m ≤ 4096 := by
    have : 1 * m ≤ (R + 1) * m := Nat.mul_le_mul_right _ (by omega)
    omega
  have hRb : R < 4096 := by
    have : (R + 1) * 1 ≤ (R + 1) * m := Nat.mul_le_mul_left _ hm
    omega
  have jn : Lib.join (wds A an) [32] = inL A := by rw [wds_all l2]; exact join_words hne
  have xl := inL_small h2
  have hft : fl [(an : Int)] A = inL A ∨ fl [(an : Int)] A = 49 :: 32 :: 36 :: 32 :: inL A := by
    by_cases e1 : an = 1
    · subst e1
      right
      obtain ⟨z, rfl⟩ : ∃ z, A = [z] := by
        cases A with
        | nil => exact absurd rfl hne
        | cons z r => cases r with
          | nil => exact ⟨z, rfl⟩
          | cons y r => simp at l2
      exact fl_one z
    · exact .inl (fl_more (by omega))
  refine grid_walk so ao S'.length sn sc an ac m R _ S' A (lineT S' A m A.length 0 :: lns (rws S' A m A.length R)) (Ps (rws S' A m A.length R)) (txt (S' ++ [(m : Int)]) A) (inL A) (fl [(an : Int)] A) w h1 h2 T rfl l3.symm ss.le (by omega) (by omega) hm hmb hRb (by show _ = _; omega) h4 hn hpr hmf G sh rfl ll (by omega)
    (fun V X => text_ok so ao sn sc an ac _ A V X.r1 X.r2 my (T.t.below X.bel)) (fun V X => ?_) (fun V Tv => ?_) (fun V X => list_any ao an ac A V X.r2 sa h4) (fun V o1 c1 o2 c2 Tv r1 r2 => flat_ok o1 o2 1 c1 an c2 [(an : Int)] A V r1 r2 (may_lst l2 h4) Tv) (fun V B o c W => ?_) hft
  · have := mayA_any so ao sn sc an ac _ A V X.r1 X.r2
    rwa [my] at this
  · have := split_any (txt (S' ++ [(m : Int)]) A) V (by omega) Tv
    rwa [hsp] at this
  · have := join_any o an c (wds A an) B V W (by omega) (by omega) (by rw [jn]; omega)
    rwa [jn] at this
theorem grid_any (so ao : Option Addr) (sn sc an ac : Nat) (S A : List Int) (w : World) (h1 : Rd w so sn S) (ss : Sl so sn sc) (h2 : Rd w ao an A) (sa : Sl ao an ac) (T : Tg w) :
    Calls Tryz.prog 3 #[.agg #[.slice so sn sc, .slice ao an ac]] w fun e w' => e = .returned (.bool true) ∧ Below w.heap.size w w' := by
  by_cases my : mayA S A = 0
  · by_cases hn : an = 0
    · subst hn
      obtain rfl : A = [] := List.eq_nil_of_length_eq_zero h2.len
      exact grid_empty so ao sn sc ac S w h1 h2 T.t my
    · by_cases hs : sn < 2
      · exact grid_low so ao sn sc an ac S A w h1 h2 sa T.t my (by omega) hs
      · exact grid_high so ao sn sc an ac S A w h1 ss h2 sa T my (by omega) (by omega)
  · exact grid_no so ao sn sc an ac S A w h1 h2 T.t my
end Go.Proofs.YtcknmfhbjkadcaaGreatDoor
