
/- The cells of an array, joined under their frame, are the array: the numbers alone. -/

import Derived.Test.YtldhochafkcpiaaGreatE1

namespace Go.Proofs.YtldhochafkcpiaaGreat

set_option linter.unusedVariables false

theorem com_self (a : List Int) : com a a = a := by
  have hl : (com a a).length = a.length := by simp [com]
  refine ext_nth hl fun k hk => ?_
  rw [hl] at hk
  rw [com_nth (by simpa using hk), ext_self (by simp), Int.max_self]
theorem cmn_same {xs : Nat → List Int × List Int} {I : List Int} : ∀ n, 0 < n → (∀ j, j < n → (xs j).1 = I) → cmn xs n = I
  | 0, h, _ => by omega
  | n + 1, _, h => by
    unfold cmn
    by_cases c : n = 0
    · rw [if_pos c]; exact h 0 (by omega)
    · rw [if_neg c, cmn_same n (by omega) (fun j hj => h j (by omega)), h n (by omega), com_self]
/-- What is known of an array's cells. -/
structure Bk (sh at' : List Int) (r : Int) : Prop where
  ms : mayF sh = 0
  la : (at'.length : Int) = pr sh
  cut : frm sh r ++ inn sh r = sh
  mf : mayF (frm sh r) = 0
  mi : mayF (inn sh r) = 0
  n : (npl sh r : Int) = pr (frm sh r)
  z : (clz sh r : Int) = pr (inn sh r)
  nz : npl sh r * clz sh r = at'.length
  n4 : npl sh r ≤ 4096
theorem Bk.cell {sh at' : List Int} {r : Int} (h : Bk sh at' r) {k : Nat} (hk : k < npl sh r) : mayA (cls sh at' r k).1 (cls sh at' r k).2 = 0 := by
  refine mayA_ok h.mi ?_
  have e : (k + 1) * clz sh r ≤ npl sh r * clz sh r := Nat.mul_le_mul_right _ (by omega)
  rw [Nat.succ_mul, h.nz] at e
  have : ((at'.drop (k * clz sh r)).take (clz sh r)).length = clz sh r := by simp; omega
  show ((((at'.drop (k * clz sh r)).take (clz sh r)).length : Nat) : Int) = pr (inn sh r)
  rw [this, h.z]
theorem Bk.same {sh at' : List Int} {r : Int} (h : Bk sh at' r) (h0 : 0 < npl sh r) : cmn (cls sh at' r) (npl sh r) = inn sh r := cmn_same _ h0 fun j hj => rfl
theorem Bk.none {sh at' : List Int} {r : Int} (h : Bk sh at' r) (h0 : npl sh r = 0) : at' = [] := by
  have := h.nz
  rw [h0, Nat.zero_mul] at this
  exact List.eq_nil_of_length_eq_zero this.symm
theorem Bk.empty {sh at' : List Int} {r : Int} (h : Bk sh at' r) (h0 : npl sh r = 0) : empE (frm sh r) (inn sh r) (List.replicate (clz sh r) 0) true = 0 ∧ empS (frm sh r) (inn sh r) (List.replicate (clz sh r) 0) true = sh := by
  have e : empE (frm sh r) (inn sh r) (List.replicate (clz sh r) 0) true = 0 := by
    unfold empE
    rw [if_neg (by rw [h.mf]; simp), if_neg (by have := h.n; omega), if_pos rfl, if_neg (by rw [mayA_ok h.mi (by rw [List.length_replicate]; exact h.z)]; simp), h.cut, h.ms]
  refine ⟨e, ?_⟩
  unfold empS
  rw [e, if_neg (by simp), if_pos rfl, h.cut]
end Go.Proofs.YtldhochafkcpiaaGreat
