
/- The cells of an array, joined under their frame, are the array: the numbers alone. -/

import Derived.Test.YtelcagfaflpolaaGreatE1

namespace Go.Proofs.YtelcagfaflpolaaGreat

set_option linter.unusedVariables false

theorem com_self (a : List Int) : com a a = a := by
  have hl : (com a a).length = a.length := by simp [com]
  refine ext_nth hl fun k hk => ?_
  rw [hl] at hk
  rw [com_nth (by simpa using hk), ext_self (by simp), Int.max_self]
theorem cmn_same {xs : Nat → List Int × List Int} {I : List Int} : ∀ n, 0 < n → (∀ j, j < n → (xs j).1 = I) → cmn xs n = I
  | 0, h, _ => by omega
  | n + 1, _, h => by
    unfold cmn
    by_cases c : n = 0
    · rw [if_pos c]; exact h 0 (by omega)
    · rw [if_neg c, cmn_same n (by omega) (fun j hj => h j (by omega)), h n (by omega), com_self]
theorem jF_zero {fs : List Int} {xs : Nat → List Int × List Int} : ∀ n, (∀ k, k < n → jA fs xs k = 0) → jF fs xs n = 0
  | 0, _ => rfl
  | n + 1, h => by unfold jF; rw [if_pos (jF_zero n fun k hk => h k (by omega))]; exact h n (by omega)
theorem tgt_self {I : List Int} (h : mayF I = 0) {k : Nat} (hk : (k : Int) < pr I) : tgt I I k = k := by
  have hp := allPos_of h (Int.natCast_nonneg k) hk
  unfold tgt aix
  rw [Nat.sub_self, List.replicate_zero, List.nil_append, plc_digs hp (Int.natCast_nonneg k) hk _ (Nat.le_refl _), List.drop_length, pr_nil, Int.ediv_one]
  omega
theorem lyZ_copy {I a cur : List Int} {off : Nat} (h : mayF I = 0) : ∀ m : Nat, (m : Int) ≤ pr I → off + m ≤ cur.length → ∀ i, nth (lyZ cur off I I a m) i = if off ≤ i ∧ i < off + m then nth a (i - off) else nth cur i
  | 0, _, _, i => by rw [if_neg (by omega)]; rfl
  | m + 1, h1, h2, i => by
    show nth ((lyZ cur off I I a m).set (off + tgt I I m) (nth a m)) i = _
    rw [tgt_self h (by omega), nth_set (by rw [lyZ_len]; omega), lyZ_copy h m (by omega) (by omega) i]
    by_cases c : i = off + m
    · subst c
      rw [if_pos rfl, if_pos (by omega), Nat.add_sub_cancel_left]
    · rw [if_neg c]
      by_cases d : off ≤ i ∧ i < off + m
      · rw [if_pos d, if_pos (by omega)]
      · rw [if_neg d, if_neg (by omega)]
theorem jnZ_copy {I at' cur : List Int} {z : Nat} {xs : Nat → List Int × List Int} (h : mayF I = 0) (hz : (z : Int) = pr I) : ∀ n, n * z ≤ cur.length → n * z ≤ at'.length → (∀ j, j < n → xs j = (I, (at'.drop (j * z)).take z)) → ∀ i, nth (jnZ I z xs cur n) i = if i < n * z then nth at' i else nth cur i
  | 0, _, _, _, i => by rw [if_neg (by omega)]; rfl
  | n + 1, h1, h2, hx, i => by
    have e : (n + 1) * z = n * z + z := Nat.succ_mul n z
    show nth (lyZ (jnZ I z xs cur n) (n * z) I (xs n).1 (xs n).2 (xs n).2.length) i = _
    rw [hx n (by omega)]
    have hl : ((at'.drop (n * z)).take z).length = z := by simp; omega
    simp only []
    rw [hl, lyZ_copy h z (by omega) (by rw [jnZ_len]; omega) i, jnZ_copy h hz n (by omega) (by omega) (fun j hj => hx j (by omega)) i]
    by_cases c : n * z ≤ i ∧ i < n * z + z
    · rw [if_pos c, if_pos (by omega), nth_take (by omega), nth_drop]
      congr 1
      omega
    · rw [if_neg c]
      by_cases d : i < n * z
      · rw [if_pos d, if_pos (by omega)]
      · rw [if_neg d, if_neg (by omega)]

/-- What is known of an array's cells. -/
structure Bk (sh at' : List Int) (r : Int) : Prop where
  ms : mayF sh = 0
  la : (at'.length : Int) = pr sh
  cut : frm sh r ++ inn sh r = sh
  mf : mayF (frm sh r) = 0
  mi : mayF (inn sh r) = 0
  n : (npl sh r : Int) = pr (frm sh r)
  z : (clz sh r : Int) = pr (inn sh r)
  nz : npl sh r * clz sh r = at'.length
  n4 : npl sh r ≤ 4096
theorem bk_of {sh at' : List Int} (r : Int) (h : mayA sh at' = 0) : Bk sh at' r := by
  obtain ⟨h1, h2⟩ := mayA_zero h
  have f1 := mayF_take h1 (sh.length - rankF sh.length r)
  have f2 := mayF_drop h1 (sh.length - rankF sh.length r)
  obtain ⟨b1, b2⟩ := prF_bd f1
  obtain ⟨b3, b4⟩ := prF_bd f2
  have hc : pr (frm sh r) * pr (inn sh r) = pr sh := pr_cut r
  have n : (npl sh r : Int) = pr (frm sh r) := by unfold npl frm; omega
  have z : (clz sh r : Int) = pr (inn sh r) := by unfold clz inn; omega
  refine ⟨h1, h2, List.take_append_drop _ _, f1, f2, n, z, ?_, by unfold npl frm; omega⟩
  have : ((npl sh r * clz sh r : Nat) : Int) = at'.length := by rw [Int.natCast_mul, n, z, hc, h2]
  omega
theorem Bk.cell {sh at' : List Int} {r : Int} (h : Bk sh at' r) {k : Nat} (hk : k < npl sh r) : mayA (cls sh at' r k).1 (cls sh at' r k).2 = 0 := by
  refine mayA_ok h.mi ?_
  have e : (k + 1) * clz sh r ≤ npl sh r * clz sh r := Nat.mul_le_mul_right _ (by omega)
  rw [Nat.succ_mul, h.nz] at e
  have : ((at'.drop (k * clz sh r)).take (clz sh r)).length = clz sh r := by simp; omega
  show ((((at'.drop (k * clz sh r)).take (clz sh r)).length : Nat) : Int) = pr (inn sh r)
  rw [this, h.z]
theorem Bk.joins {sh at' : List Int} {r : Int} (h : Bk sh at' r) : ∀ k, k < npl sh r → jA (frm sh r) (cls sh at' r) k = 0 := fun k hk => by
  have e : nxt (cls sh at' r) k (inn sh r) = inn sh r := by
    have := cmn_same (xs := cls sh at' r) (I := inn sh r) (k + 1) (by omega) (fun j hj => rfl)
    rw [← nxt_cmn] at this
    exact this
  unfold jA addE
  rw [if_neg (by have := h.n; omega), if_neg (by rw [h.cell hk]; simp)]
  show (if mayF (nxt (cls sh at' r) k (inn sh r)) ≠ 0 ∨ mayF (frm sh r ++ nxt (cls sh at' r) k (inn sh r)) ≠ 0 then (17 : Int) else 0) = 0
  rw [e, h.cut, if_neg (by rw [h.mi, h.ms]; simp)]
theorem Bk.same {sh at' : List Int} {r : Int} (h : Bk sh at' r) (h0 : 0 < npl sh r) : cmn (cls sh at' r) (npl sh r) = inn sh r := cmn_same _ h0 fun j hj => rfl
theorem Bk.whole {sh at' : List Int} {r : Int} (h : Bk sh at' r) (h0 : 0 < npl sh r) :
    frm sh r ++ cmn (cls sh at' r) (npl sh r) = sh ∧ jnZ (cmn (cls sh at' r) (npl sh r)) (pr (cmn (cls sh at' r) (npl sh r))).toNat (cls sh at' r) (List.replicate (pr (frm sh r ++ cmn (cls sh at' r) (npl sh r))).toNat 0) (npl sh r) = at' := by
  rw [h.same h0, h.cut]
  refine ⟨rfl, ?_⟩
  have hz := h.z
  have hl : (List.replicate (pr sh).toNat (0 : Int)).length = at'.length := by have := h.la; simp; omega
  have e : (pr (inn sh r)).toNat = clz sh r := rfl
  rw [e]
  refine ext_nth (by rw [jnZ_len, hl]) fun k hk => ?_
  rw [jnZ_len, hl] at hk
  rw [jnZ_copy (at' := at') (xs := cls sh at' r) h.mi h.z (npl sh r) (by rw [hl, h.nz]; exact Nat.le_refl _) (by rw [h.nz]; exact Nat.le_refl _) (fun j hj => rfl) k, if_pos (by rw [h.nz]; exact hk)]
theorem Bk.beg {sh at' : List Int} {r : Int} (h : Bk sh at' r) (h0 : 0 < npl sh r) : begE (frm sh r) = 0 := by
  unfold begE
  rw [if_neg (by rw [h.mf]; simp), if_neg (by have := h.n; omega)]
theorem Bk.none {sh at' : List Int} {r : Int} (h : Bk sh at' r) (h0 : npl sh r = 0) : at' = [] := by
  have := h.nz
  rw [h0, Nat.zero_mul] at this
  exact List.eq_nil_of_length_eq_zero this.symm
theorem Bk.empty {sh at' : List Int} {r : Int} (h : Bk sh at' r) (h0 : npl sh r = 0) : empE (frm sh r) (inn sh r) (List.replicate (clz sh r) 0) true = 0 ∧ empS (frm sh r) (inn sh r) (List.replicate (clz sh r) 0) true = sh := by
  have e : empE (frm sh r) (inn sh r) (List.replicate (clz sh r) 0) true = 0 := by
    unfold empE
    rw [if_neg (by rw [h.mf]; simp), if_neg (by have := h.n; omega), if_pos rfl, if_neg (by rw [mayA_ok h.mi (by rw [List.length_replicate]; exact h.z)]; simp), h.cut, h.ms]
  refine ⟨e, ?_⟩
  unfold empS
  rw [e, if_neg (by simp), if_pos rfl, h.cut]
theorem mayA_why {sh at' : List Int} (h : mayA sh at' ≠ 0) : mayF sh ≠ 0 ∨ (mayF sh = 0 ∧ sizeF sh ≠ (at'.length : Int)) := by
  by_cases c : mayF sh = 0
  · refine .inr ⟨c, fun e => h (mayA_ok c ?_)⟩
    rw [← e, sizeF_ok c]
  · exact .inl c
end Go.Proofs.YtelcagfaflpolaaGreat
