
/- What Same and May say of a term with one field changed. -/

import Derived.Test.YtiahilelcppfgaaGreatTZ

import Derived.Test.YtiahilelcppfgaaGreatTO1

import Derived.Laws.Strings

namespace Go.Proofs.YtiahilelcppfgaaGreat

open Go.RowKit Go.Maps

set_option linter.unusedVariables false

theorem blen (t : ByteArray) : t.toList.length = t.size := by
  rw [ByteArray.toList_eq, Array.length_toList]; rfl
theorem alk_refl : ∀ (d : Nat) (x : Tr (d + 1)), alkB (d + 1) x (d + 1) x = true
  | 0, x => by
    have e : x.ks.length = 0 := by
      cases h : x.ks with
      | nil => rfl
      | cons y _ => exact nomatch y
    simp [alkB, eqA, eqB, e, pall]
  | d + 1, x => by
    have hp : pall (fun i => (x.ks[i]?).elim true fun a => (x.ks[i]?).elim true fun b => alkB (d + 1) a (d + 1) b) x.ks.length = true := by
      rw [pall_iff]
      intro i hi
      rw [List.getElem?_eq_getElem hi]
      exact alk_refl d _
    rw [alkB]
    simp [eqA, eqB, hp]
theorem alk_diff {d e : Nat} {x : Tr (d + 1)} {y : Tr (e + 1)} (h : x.nd.k ≠ y.nd.k ∨ x.nd.t.size ≠ y.nd.t.size ∨ x.nd.n ≠ y.nd.n ∨ x.nd.sh.length ≠ y.nd.sh.length ∨ x.nd.at'.length ≠ y.nd.at'.length ∨ x.ks.length ≠ y.ks.length) : alkB (d + 1) x (e + 1) y = false := by
  rw [alkB]
  rcases h with h | h | h | h | h | h
  · simp [h]
  · have : (x.nd.t.toList == y.nd.t.toList) = false := by
      cases q : (x.nd.t.toList == y.nd.t.toList) with
      | false => rfl
      | true =>
        have e := eq_of_beq q
        have := congrArg List.length e
        rw [blen, blen] at this
        exact absurd this h
    simp [this]
  · simp [h]
  · simp [eqA, eqB_len h]
  · simp [eqA, eqB_len h]
  · simp [h]
theorem nds_one : ∀ (d : Nat) (x : Tr d), 1 ≤ nds d x
  | 0, x => nomatch x
  | d + 1, x => Nat.le_add_right _ _
theorem psum_many (f : Nat → Nat) : ∀ m, (∀ i, i < m → 1 ≤ f i) → m ≤ psum f m
  | 0, _ => Nat.le_refl _
  | m + 1, h => by
    have := psum_many f m (fun i hi => h i (by omega))
    have := h m (by omega)
    simp only [psum]; omega
theorem kid_count {d : Nat} {x : Tr (d + 1)} (h : szO (d + 1) x = true) : x.ks.length ≤ 4096 := by
  have h1 := (of_decide_eq_true (show decide (nds (d + 1) x ≤ 4096 ∧ dep (d + 1) x ≤ 256) = true from h)).1
  have h2 : nds (d + 1) x = 1 + psum (fun i => (x.ks[i]?).elim 0 (nds d)) x.ks.length := rfl
  have := psum_many (fun i => (x.ks[i]?).elim 0 (nds d)) x.ks.length (fun i hi => by
    show 1 ≤ (x.ks[i]?).elim 0 (nds d)
    rw [List.getElem?_eq_getElem hi]
    exact nds_one d _)
  omega
theorem may_facts {d : Nat} {x : Tr (d + 1)} {c : Int} (h : mayT (d + 1) x c = 0) : (c = 1 ∨ c = 2 ∨ c = 3) ∧ szO (d + 1) x = true ∧ txB x.nd.k x.nd.t = true ∧ numB x.nd.k x.nd.n = true ∧ arrB x.nd.k x.nd.sh x.nd.at' = true ∧ kidB x.nd.k x.ks.length (kin d x.ks) = true := by
  unfold mayT at h
  split at h
  · omega
  rename_i h1
  split at h
  · omega
  rename_i h2
  split at h
  · omega
  rename_i h3
  have h3' : fitB (d + 1) x true = true := by simpa using h3
  rw [fitB] at h3'
  simp only [Bool.and_eq_true] at h3'
  refine ⟨?_, by simpa using h2, h3'.1.1, h3'.1.2.1, h3'.1.2.2.1, h3'.1.2.2.2⟩
  by_cases a : c = 1
  · exact .inl a
  by_cases b : c = 2
  · exact .inr (.inl b)
  by_cases g : c = 3
  · exact .inr (.inr g)
  · exact absurd ⟨a, b, g⟩ h1
theorem may_bad {d : Nat} {y : Tr (d + 1)} {c : Int} (hc : c = 1 ∨ c = 2 ∨ c = 3) (h : txB y.nd.k y.nd.t = false ∨ numB y.nd.k y.nd.n = false ∨ arrB y.nd.k y.nd.sh y.nd.at' = false ∨ kidB y.nd.k y.ks.length (kin d y.ks) = false) : mayT (d + 1) y c = 33 ∨ mayT (d + 1) y c = 2 := by
  have hf : fitB (d + 1) y true = false := by
    rw [fitB]
    rcases h with h | h | h | h <;> simp [h]
  unfold mayT
  rw [if_neg (by omega)]
  by_cases hs : szO (d + 1) y = false
  · rw [if_pos hs]; exact .inr rfl
  · rw [if_neg hs, if_pos hf]; exact .inl rfl
theorem kid_99 (n : Nat) (g : Nat → Int × ByteArray) : kidB 99 n g = false := by simp [kidB]
theorem num_bad {k n m : Int} (h : numB k n = true) (hm : m ≠ n) (hb : k ≠ 23 ∨ (m ≠ 1 ∧ m ≠ 2)) : numB k m = false := by
  unfold numB at *
  by_cases e : k = 23
  · rw [if_pos e]; simp; omega
  · rw [if_neg e] at h ⊢; simp at h ⊢; omega
theorem arr_small {k : Int} {s a : List Int} (h : arrB k s a = true) : s.length ≤ 64 ∧ a.length ≤ 64 := by
  unfold arrB scB lsB at h
  by_cases e : k = 1
  · rw [if_pos e] at h
    simp only [Bool.or_eq_true, Bool.and_eq_true, decide_eq_true_eq] at h
    omega
  · by_cases e2 : k = 42
    · rw [if_neg e, if_pos e2] at h
      simp only [Bool.and_eq_true, decide_eq_true_eq] at h
      omega
    · rw [if_neg e, if_neg e2] at h
      simp only [Bool.and_eq_true, decide_eq_true_eq] at h
      omega
theorem arr_atom {k z : Int} {s a : List Int} (h : arrB k s a = true) : arrB k s (a ++ [z]) = false := by
  have hl : (a ++ [z]).length = a.length + 1 := by simp
  unfold arrB scB lsB at *
  rw [Bool.eq_false_iff]
  intro h'
  by_cases e : k = 1
  · rw [if_pos e] at h h'
    simp only [Bool.or_eq_true, Bool.and_eq_true, decide_eq_true_eq, hl] at h h'
    omega
  · by_cases e2 : k = 42
    · rw [if_neg e, if_pos e2] at h h'
      simp only [Bool.and_eq_true, decide_eq_true_eq, hl] at h h'
      omega
    · rw [if_neg e, if_neg e2] at h'
      simp only [Bool.and_eq_true, decide_eq_true_eq, hl] at h'
      omega
theorem arr_shape {k z : Int} {s a : List Int} (h : arrB k s a = true) : arrB k (s ++ [z]) a = false := by
  have hl : (s ++ [z]).length = s.length + 1 := by simp
  unfold arrB scB lsB at *
  rw [Bool.eq_false_iff]
  intro h'
  by_cases e : k = 1
  · rw [if_pos e] at h h'
    simp only [Bool.or_eq_true, Bool.and_eq_true, decide_eq_true_eq, hl] at h h'
    omega
  · by_cases e2 : k = 42
    · rw [if_neg e, if_pos e2] at h h'
      simp only [Bool.and_eq_true, decide_eq_true_eq, hl] at h h'
      omega
    · rw [if_neg e, if_neg e2] at h'
      simp only [Bool.and_eq_true, decide_eq_true_eq, hl] at h'
      omega
theorem at_end (t : ByteArray) : (t ++ (⟨#[63]⟩ : ByteArray)).size = t.size + 1 := by
  rw [ByteArray.size_append]; rfl
theorem bt_end (t : ByteArray) : bt (t ++ (⟨#[63]⟩ : ByteArray)) t.size = 63 := by
  unfold bt
  rw [dif_pos (by rw [at_end]; omega)]
  rw [ByteArray.getElem_append_right (Nat.le_refl _)]
  simp only [Nat.sub_self]
  rfl
theorem nm_bad (lo : Int) (t : ByteArray) : nmB lo (t ++ (⟨#[63]⟩ : ByteArray)) = false := by
  unfold nmB
  rw [pall_no (i := t.size) (by rw [at_end]; omega) (by rw [bt_end]; rfl)]
  simp
theorem nil_bad (t : ByteArray) : ((t ++ (⟨#[63]⟩ : ByteArray)).toList == ([] : List UInt8)) = false := by
  cases q : ((t ++ (⟨#[63]⟩ : ByteArray)).toList == ([] : List UInt8)) with
  | false => rfl
  | true =>
    have := congrArg List.length (eq_of_beq q)
    rw [blen, at_end] at this
    simp at this
theorem has_spD {l : List UInt8} : ∀ k, has (spD k) (.string l) = true → ∃ j, j < k ∧ (pS j).data.toList = l
  | 0, h => by simp [spD, has] at h
  | k + 1, h => by
    by_cases e : l = (pS k).data.toList
    · exact ⟨k, Nat.lt_succ_self _, e.symm⟩
    · have : has (spD k) (.string l) = true := by
        rw [← h]
        exact (has_put_other (by intro q; injection q with q; exact e q) _).symm
      obtain ⟨j, hj, q⟩ := has_spD k this
      exact ⟨j, Nat.lt_succ_of_lt hj, q⟩
theorem pS_end (j : Nat) (h : j < 43) : (pS j).data.toList.getLast? ≠ some 63 := by
  have key : ∀ j, j < 43 → decide ((pS j).data.toList.getLast? ≠ some 63) = true := by
    have : (List.range 43).all (fun j => decide ((pS j).data.toList.getLast? ≠ some 63)) = true := by decide +kernel
    intro j hj
    exact List.all_eq_true.1 this j (List.mem_range.2 hj)
  exact of_decide_eq_true (key j h)
theorem pr_bad (t : ByteArray) : isPr (t ++ (⟨#[63]⟩ : ByteArray)) = false := by
  cases q : isPr (t ++ (⟨#[63]⟩ : ByteArray)) with
  | false => rfl
  | true =>
    obtain ⟨j, hj, e⟩ := has_spD 43 q
    have := pS_end j hj
    rw [e] at this
    exact absurd (by simp) this
theorem txt_bad (k : Int) (t : ByteArray) : txB k (t ++ (⟨#[63]⟩ : ByteArray)) = false := by
  unfold txB
  rw [nm_bad, nm_bad, pr_bad, nil_bad]
  simp
theorem txt_size {k : Int} {t : ByteArray} (h : txB k t = true) : t.size ≤ 32 := by
  have hn : ∀ lo, nmB lo t = true → t.size ≤ 32 := fun lo h => by unfold nmB at h; simp at h; exact h.2.1
  unfold txB at h
  split at h
  · exact hn _ h
  split at h
  · exact hn _ h
  split at h
  · obtain ⟨j, hj, e⟩ := has_spD 43 h
    have := pS_short j hj
    have e2 := congrArg List.length e
    simp at e2
    have e3 : (pS j).size = (pS j).data.size := rfl
    have e4 : t.size = t.data.size := rfl
    omega
  · have q := congrArg List.length (eq_of_beq h)
    rw [blen, List.length_nil] at q
    omega
/-- A kid more: one that is nothing, or where the number of kids is told. -/
theorem kid_more {k : Int} {L : Nat} {g h : Nat → Int × ByteArray} {m : Int} (hk : kidB k L g = true) (hm : (h L).1 = m) (ht : (h L).2.toList = []) (hb : m < 1 ∨ (k ≠ 5 ∧ k ≠ 14 ∧ k ≠ 43)) : kidB k (L + 1) h = false := by
  have ka : ∀ ps : List Nat, kaB ps L g = true → kaB ps (L + 1) h = false := fun ps q => by
    unfold kaB at *
    simp at q
    have : decide (L + 1 = ps.length) = false := by simp; omega
    rw [this]; rfl
  have kl : ∀ p, m < 1 → (p = 1 ∨ p = 2 ∨ p = 4) → kallB p (L + 1) h = false := fun p q hp => by
    unfold kallB
    refine pall_no (i := L) (Nat.lt_succ_self _) ?_
    rw [hm]
    have c0 : clsN m = 0 := clsN_0 (by omega) (by omega) (by omega)
    rcases hp with rfl | rfl | rfl <;> simp [askB, c0]
  unfold kidB at *
  by_cases e0 : k = 1 ∨ k = 2 ∨ k = 20 ∨ k = 21
  · rw [if_pos e0] at hk ⊢; exact ka _ hk
  rw [if_neg e0] at hk ⊢
  by_cases e1 : k = 3
  · rw [if_pos e1] at hk ⊢; exact ka _ hk
  rw [if_neg e1] at hk ⊢
  by_cases e2 : k = 4
  · rw [if_pos e2] at hk ⊢; exact ka _ hk
  rw [if_neg e2] at hk ⊢
  by_cases e3 : k = 5
  · rw [if_pos e3]; rw [kl 1 (by omega) (by simp)]; simp
  rw [if_neg e3] at hk ⊢
  by_cases e4 : k = 10 ∨ k = 11
  · rw [if_pos e4] at hk ⊢; exact ka _ hk
  rw [if_neg e4] at hk ⊢
  by_cases e5 : k = 12
  · rw [if_pos e5] at hk ⊢; exact ka _ hk
  rw [if_neg e5] at hk ⊢
  by_cases e6 : k = 13
  · rw [if_pos e6] at hk ⊢; exact ka _ hk
  rw [if_neg e6] at hk ⊢
  by_cases e7 : k = 14
  · rw [if_pos e7]; rw [kl 4 (by omega) (by simp)]
  rw [if_neg e7] at hk ⊢
  by_cases e8 : k = 22
  · rw [if_pos e8] at hk ⊢; exact ka _ hk
  rw [if_neg e8] at hk ⊢
  by_cases e9 : k = 23
  · rw [if_pos e9] at hk ⊢; exact ka _ hk
  rw [if_neg e9] at hk ⊢
  by_cases e10 : k = 24 ∨ k = 25 ∨ k = 26 ∨ k = 27 ∨ k = 42
  · rw [if_pos e10] at hk ⊢; exact ka _ hk
  rw [if_neg e10] at hk ⊢
  by_cases e11 : k = 28 ∨ k = 29 ∨ k = 30 ∨ k = 31 ∨ k = 32 ∨ k = 33 ∨ k = 34 ∨ k = 35 ∨ k = 36 ∨ k = 37 ∨ k = 38 ∨ k = 44 ∨ k = 46
  · rw [if_pos e11] at hk ⊢; exact ka _ hk
  rw [if_neg e11] at hk ⊢
  by_cases e12 : k = 39
  · rw [if_pos e12] at hk ⊢; exact ka _ hk
  rw [if_neg e12] at hk ⊢
  by_cases e13 : k = 40 ∨ k = 41
  · rw [if_pos e13] at hk ⊢; exact ka _ hk
  rw [if_neg e13] at hk ⊢
  by_cases e14 : k = 43
  · rw [if_pos e14]; rw [kl 2 (by omega) (by simp)]; simp
  rw [if_neg e14] at hk ⊢
  by_cases e15 : k = 45
  · rw [if_pos e15] at hk ⊢; exact ka _ hk
  rw [if_neg e15] at hk
  cases hk
end Go.Proofs.YtiahilelcppfgaaGreat
