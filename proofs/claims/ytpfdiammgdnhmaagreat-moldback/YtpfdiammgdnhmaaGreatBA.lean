
/- MoldBack: turned round twice, in numbers. -/

import Derived.Test.YtpfdiammgdnhmaaGreatCC

namespace Go.Proofs.YtpfdiammgdnhmaaGreat

open Go.RowKit

set_option linter.unusedVariables false

theorem nth_over {l : List Int} {k : Nat} (h : l.length ≤ k) : nth l k = 0 := by
  unfold nth; rw [List.getD_eq_getElem?_getD, List.getElem?_eq_none h]; rfl
theorem atoms_len {z : Int} {r at' : List Int} (h : mayF (z :: r) = 0) (hl : (at'.length : Int) = pr (z :: r)) : at'.length = z.toNat * (pr r).toNat := by
  have hz := (mayF_zero h).1
  have h0 : 0 ≤ z := hz 0 (by simp)
  have hr : ∀ k, k < r.length → 0 ≤ nth r k := fun k hk => hz (k + 1) (by simpa using hk)
  have hp := pr_nonneg hr
  rw [pr_cons] at hl
  have : ((z.toNat * (pr r).toNat : Nat) : Int) = z * pr r := by rw [Int.natCast_mul, Int.toNat_of_nonneg h0, Int.toNat_of_nonneg hp]
  omega
theorem tkX_len {z : Int} {r at' : List Int} (h : mayF (z :: r) = 0) (n : Int) : (gth at' (tkX (z :: r) n)).length = szN n * (pr r).toNat := by
  have hz := (mayF_zero h).1
  have hr : ∀ k, k < r.length → 0 ≤ nth r k := fun k hk => hz (k + 1) (by simpa using hk)
  rw [tkX_cons, gth_first at' _ hr rfl, rows_len]; rfl
/-- What stands at a place of what is taken. -/
theorem over_nth {z : Int} {r at' : List Int} (h : mayF (z :: r) = 0) (hl : (at'.length : Int) = pr (z :: r)) {n : Int} (hn : z.toNat ≤ szN n) {q : Nat} (hq : q < (gth at' (tkX (z :: r) n)).length) :
    nth (gth at' (tkX (z :: r) n)) q = if n < 0 then (if szN n * (pr r).toNat - at'.length ≤ q then nth at' (q - (szN n * (pr r).toNat - at'.length)) else 0) else nth at' q := by
  have hz := (mayF_zero h).1
  have hr : ∀ k, k < r.length → 0 ≤ nth r k := fun k hk => hz (k + 1) (by simpa using hk)
  have e := atoms_len h hl
  rw [tkX_len h] at hq
  obtain ⟨R, hR⟩ : ∃ R, (pr r).toNat = R := ⟨_, rfl⟩
  have R0 : 0 < R := by
    rcases Nat.eq_zero_or_pos R with c | c
    · rw [hR, c, Nat.mul_zero] at hq; omega
    · exact c
  have hi : q / R < szN n := by rw [hR] at hq; exact Nat.div_lt_of_lt_mul (by rw [Nat.mul_comm]; exact hq)
  have hj := Nat.mod_lt q R0
  have hqe : q / R * R + q % R = q := by rw [Nat.mul_comm]; exact Nat.div_add_mod q R
  rw [tkX_cons, gth_first at' _ hr rfl]
  have := nth_rows (n := szN n) (R := R) (F := fun i j => if (taA ⟨z.toNat, z.toNat, (pr r).toNat, fun i => (i : Int)⟩ n).f i < 0 ∨ (z.toNat : Int) ≤ (taA ⟨z.toNat, z.toNat, (pr r).toNat, fun i => (i : Int)⟩ n).f i then 0 else nth at' (((taA ⟨z.toNat, z.toNat, (pr r).toNat, fun i => (i : Int)⟩ n).f i).toNat * R + j)) hi hj
  rw [hqe] at this
  rw [hR] at this e ⊢
  refine this.trans ?_
  clear this
  generalize q / R = u at *
  generalize q % R = v at *
  by_cases c : n < 0
  · rw [if_pos c]
    have ef : (taA ⟨z.toNat, z.toNat, R, fun i => (i : Int)⟩ n).f u = (u : Int) + ((z.toNat : Int) - (szN n : Int)) := by
      unfold taA; dsimp only; rw [if_pos c]
    rw [ef, e, ← Nat.sub_mul]
    obtain ⟨d, hd⟩ : ∃ d, szN n - z.toNat = d := ⟨_, rfl⟩
    rw [hd]
    by_cases c2 : d ≤ u
    · have m := Nat.mul_le_mul_right R c2
      rw [if_neg (by omega), if_pos (by omega)]
      congr 1
      rw [show ((u : Int) + ((z.toNat : Int) - (szN n : Int))).toNat = u - d by omega, Nat.sub_mul]
      omega
    · have m := Nat.mul_le_mul_right R (show u + 1 ≤ d by omega)
      rw [Nat.add_mul, Nat.one_mul] at m
      rw [if_pos (by omega), if_neg (by omega)]
  · rw [if_neg c]
    have ef : (taA ⟨z.toNat, z.toNat, R, fun i => (i : Int)⟩ n).f u = (u : Int) := by
      unfold taA; dsimp only; rw [if_neg c]
    simp only [ef]
    by_cases c2 : z.toNat ≤ u
    · have m := Nat.mul_le_mul_right R c2
      rw [if_pos (by omega), nth_over (by omega)]
    · rw [if_neg (by omega), Int.toNat_natCast, hqe]
/-- Less than 0 atoms are never left; the parts' error is the size's. -/
theorem drX_none {z : Int} {r at' : List Int} (h : mayF (z :: r) = 0) {n : Int} (hn : z.toNat ≤ szN n) : gth at' (drX (z :: r) n) = [] := by
  have e := gth_len at' (drX (z :: r) n)
  rw [lens_drX h, pr_cons, show z.toNat - min (szN n) z.toNat = 0 by omega] at e
  rw [show ((0 : Nat) : Int) * pr r = 0 from Int.zero_mul _] at e
  exact List.length_eq_zero_iff.1 (by omega)
theorem mayF_17 {z k : Int} {r : List Int} (h : mayF (z :: r) = 0) (h0 : 0 ≤ k) : mayF (k :: r) = 0 ∨ mayF (k :: r) = 17 := by
  obtain ⟨h1, h2, h3⟩ := mayF_zero h
  by_cases c : pz (k :: r) ≤ 4096
  · left
    refine mayF_ok (fun j hj => ?_) (by simpa using h2) c
    cases j with
    | zero => exact h0
    | succ j => exact h1 (j + 1) (by simpa using hj)
  · right
    have hany : ((k :: r).any fun z => decide (z < 0)) = false := by
      rw [List.any_eq_false]
      intro x hx
      have hall : ∀ j, j < (k :: r).length → 0 ≤ nth (k :: r) j := fun j hj => by
        cases j with
        | zero => exact h0
        | succ j => exact h1 (j + 1) (by simpa using hj)
      obtain ⟨j, hj, rfl⟩ := List.mem_iff_getElem.1 hx
      have := hall j hj
      rw [show nth (k :: r) j = (k :: r)[j] by unfold nth; rw [List.getD_eq_getElem?_getD, List.getElem?_eq_getElem hj]; rfl] at this
      simp; omega
    unfold mayF
    rw [hany, if_neg (by simp)]
    split
    · rfl
    · rw [if_pos (by omega)]
end Go.Proofs.YtpfdiammgdnhmaaGreat


namespace Go.Proofs.YtpfdiammgdnhmaaGreat

open Go.RowKit

set_option linter.unusedVariables false

/-- The axes with the first one turned round. -/
def bkX (sh : List Int) : List Ax := match axsOf sh with | [] => [] | a :: l => baA a :: l
theorem bkX_cons (z : Int) (r : List Int) : bkX (z :: r) = baA ⟨z.toNat, z.toNat, (pr r).toNat, fun i => (i : Int)⟩ :: axsOf r := by simp [bkX, axsOf]
theorem lens_bkX {sh : List Int} (h : mayF sh = 0) : lens (bkX sh) = sh := by
  cases sh with
  | nil => rfl
  | cons z r =>
    have hz := (mayF_zero h).1
    have h0 : 0 ≤ z := hz 0 (by simp)
    rw [bkX_cons]
    show ((z.toNat : Nat) : Int) :: lens (axsOf r) = _
    rw [lens_axsOf (fun k hk => hz (k + 1) (by simpa using hk)), Int.toNat_of_nonneg h0]
theorem gth_bkX {z : Int} {r at' : List Int} (h : mayF (z :: r) = 0) : gth at' (bkX (z :: r)) = rows z.toNat (pr r).toNat (fun i j => nth at' ((z.toNat - 1 - i) * (pr r).toNat + j)) := by
  have hz := (mayF_zero h).1
  have hr : ∀ k, k < r.length → 0 ≤ nth r k := fun k hk => hz (k + 1) (by simpa using hk)
  rw [bkX_cons, gth_first at' _ hr rfl]
  show rows z.toNat (pr r).toNat _ = _
  refine rows_congr fun i hi j hj => ?_
  show (if ((z.toNat : Nat) : Int) - 1 - (i : Int) < 0 ∨ ((z.toNat : Nat) : Int) ≤ ((z.toNat : Nat) : Int) - 1 - (i : Int) then 0 else nth at' ((((z.toNat : Nat) : Int) - 1 - (i : Int)).toNat * (pr r).toNat + j)) = _
  rw [if_neg (by omega), show (((z.toNat : Nat) : Int) - 1 - (i : Int)).toNat = z.toNat - 1 - i by omega]
/-- Turned round twice it is what it was. -/
theorem bk_twice {z : Int} {r at' : List Int} (h : mayF (z :: r) = 0) (hl : (at'.length : Int) = pr (z :: r)) : gth (gth at' (bkX (z :: r))) (bkX (z :: r)) = at' := by
  have e := atoms_len h hl
  rw [gth_bkX h, gth_bkX h]
  refine Eq.trans (rows_congr fun i hi j hj => ?_) (rows_self e)
  rw [nth_rows (by omega) hj, show z.toNat - 1 - (z.toNat - 1 - i) = i by omega]
theorem bk_may {z : Int} {r at' : List Int} (h : mayF (z :: r) = 0) : mayA (z :: r) (gth at' (bkX (z :: r))) = 0 :=
  mayA_ok h (by rw [gth_len, lens_bkX h])
end Go.Proofs.YtpfdiammgdnhmaaGreat
