
/- The names of a term: each once, rising; a name more. -/

import Derived.Test.YtiahilelcppfgaaGreatNC

namespace Go.Proofs.YtiahilelcppfgaaGreat

open Go.RowKit Go.Sort

set_option linter.unusedVariables false

theorem getE_lt {d : Array (List UInt8)} {i : Nat} (h : i < d.size) : d[i]! = d[i] := getElem!_pos d i h
theorem lt_of_le_ne {a b : List UInt8} (h : a ≤ b) (hn : a ≠ b) : a < b := by
  by_cases q : a < b
  · exact q
  · exact absurd (List.le_antisymm h (List.not_lt.1 q)) hn
/-- What Compact makes of a rising list. -/
theorem comp_facts (d : Array (List UInt8)) (hs : ∀ i, i + 1 < d.size → d[i]! ≤ d[i + 1]!) : ∀ m, m ≤ d.size → (Lib.compactUpTo d m).Pairwise (· < ·) ∧ (∀ b ∈ Lib.compactUpTo d m, b ≤ d[m - 1]!) ∧ (∀ b, b ∈ Lib.compactUpTo d m ↔ ∃ i, i < m ∧ d[i]! = b)
  | 0, _ => by simp [Lib.compactUpTo]
  | m + 1, hm => by
    obtain ⟨h1, h2, h3⟩ := comp_facts d hs m (by omega)
    have hle : ∀ b ∈ Lib.compactUpTo d m, b ≤ d[m]! := fun b hb => by
      have h0 : 0 < m := by
        obtain ⟨i, hi, _⟩ := (h3 b).1 hb
        omega
      have q := hs (m - 1) (by omega)
      rw [show m - 1 + 1 = m by omega] at q
      exact List.le_trans (h2 b hb) q
    rw [Lib.compactUpTo_succ]
    cases hk : Lib.keeps d m
    · have hk' : ¬ (m = 0 ∨ d[m]! ≠ d[m - 1]!) := by unfold Lib.keeps at hk; simpa using hk
      have h0 : m ≠ 0 := fun e => hk' (.inl e)
      have he : d[m]! = d[m - 1]! := by
        by_cases e : d[m]! = d[m - 1]!
        · exact e
        · exact absurd (.inr e) hk'
      simp only [Bool.false_eq_true, if_false, List.append_nil]
      refine ⟨h1, fun b hb => hle b hb, fun b => ?_⟩
      rw [h3 b]
      constructor
      · rintro ⟨i, hi, e⟩; exact ⟨i, by omega, e⟩
      · rintro ⟨i, hi, e⟩
        by_cases hi' : i = m
        · subst hi'; exact ⟨i - 1, by omega, by rw [← he]; exact e⟩
        · exact ⟨i, by omega, e⟩
    · simp only [if_true]
      refine ⟨List.pairwise_append.2 ⟨h1, List.pairwise_singleton _ _, fun a ha b hb => ?_⟩, fun b hb => ?_, fun b => ?_⟩
      · rw [List.mem_singleton] at hb
        subst hb
        refine lt_of_le_ne (hle a ha) fun e => ?_
        obtain ⟨i, hi, q⟩ := (h3 a).1 ha
        have hk' : m = 0 ∨ d[m]! ≠ d[m - 1]! := by unfold Lib.keeps at hk; simpa using hk
        rcases hk' with h0 | hne
        · omega
        · have q2 := h2 a ha
          have q3 := hs (m - 1) (by omega)
          rw [show m - 1 + 1 = m by omega] at q3
          rw [e] at q2
          exact hne (List.le_antisymm q2 q3)
      · rw [Nat.add_sub_cancel]
        rcases List.mem_append.1 hb with hb | hb
        · exact hle b hb
        · rw [List.mem_singleton] at hb; rw [hb]; exact List.le_refl _
      · rw [List.mem_append, h3 b, List.mem_singleton]
        constructor
        · rintro (⟨i, hi, e⟩ | e)
          · exact ⟨i, by omega, e⟩
          · exact ⟨m, by omega, e.symm⟩
        · rintro ⟨i, hi, e⟩
          by_cases hi' : i = m
          · subst hi'; exact .inr e.symm
          · exact .inl ⟨i, by omega, e⟩
theorem sorted_le (l : List (List UInt8)) (i : Nat) (h : i + 1 < (l.mergeSort fun x y => decide (x ≤ y)).toArray.size) : (l.mergeSort fun x y => decide (x ≤ y)).toArray[i]! ≤ (l.mergeSort fun x y => decide (x ≤ y)).toArray[i + 1]! := by
  have tr : ∀ a b c : List UInt8, decide (a ≤ b) = true → decide (b ≤ c) = true → decide (a ≤ c) = true := fun a b c h1 h2 => by simp only [decide_eq_true_eq] at *; exact List.le_trans h1 h2
  have tt : ∀ a b : List UInt8, (decide (a ≤ b) || decide (b ≤ a)) = true := fun a b => by simp only [Bool.or_eq_true, decide_eq_true_eq]; exact List.le_total a b
  have hp := List.pairwise_mergeSort tr tt l
  have q := List.pairwise_iff_getElem.1 hp i (i + 1) (by simp at h; simpa using (by omega : i < l.length)) (by simpa using h) (Nat.lt_succ_self _)
  rw [getE_lt (by omega), getE_lt h]
  simpa using q
theorem nm_facts (gl : List ByteArray) : (nmL gl).Pairwise (· < ·) ∧ ∀ b, b ∈ nmL gl ↔ b ∈ bys gl := by
  obtain ⟨h1, _, h3⟩ := comp_facts ((bys gl).mergeSort fun x y => decide (x ≤ y)).toArray (sorted_le (bys gl)) ((bys gl).mergeSort fun x y => decide (x ≤ y)).length (by simp)
  refine ⟨h1, fun b => ?_⟩
  show b ∈ Lib.compactUpTo _ _ ↔ _
  rw [h3 b]
  constructor
  · rintro ⟨i, hi, e⟩
    rw [getE_lt (by simpa using hi)] at e
    have : b ∈ (bys gl).mergeSort fun x y => decide (x ≤ y) := by rw [← e]; simp
    exact List.mem_mergeSort.1 this
  · intro hb
    have : b ∈ (bys gl).mergeSort fun x y => decide (x ≤ y) := List.mem_mergeSort.2 hb
    obtain ⟨i, hi, e⟩ := List.mem_iff_getElem.1 this
    exact ⟨i, hi, by rw [getE_lt (by simpa using hi)]; simpa using e⟩
/-- Rising lists of the same texts are the same. -/
theorem rise_ext : ∀ {a b : List (List UInt8)}, a.Pairwise (· < ·) → b.Pairwise (· < ·) → (∀ x, x ∈ a ↔ x ∈ b) → a = b
  | [], [], _, _, _ => rfl
  | [], y :: b, _, _, h => absurd ((h y).2 (by simp)) (by simp)
  | x :: a, [], _, _, h => absurd ((h x).1 (by simp)) (by simp)
  | x :: a, y :: b, ha, hb, h => by
    obtain ⟨ha1, ha2⟩ := List.pairwise_cons.1 ha
    obtain ⟨hb1, hb2⟩ := List.pairwise_cons.1 hb
    have e : x = y := by
      rcases List.mem_cons.1 ((h x).1 (by simp)) with e | e
      · exact e
      · rcases List.mem_cons.1 ((h y).2 (by simp)) with e2 | e2
        · exact e2.symm
        · exact absurd (List.lt_trans (hb1 x e) (ha1 y e2)) (List.lt_irrefl _)
    subst e
    congr 1
    refine rise_ext ha2 hb2 fun z => ?_
    constructor
    · intro hz
      rcases List.mem_cons.1 ((h z).1 (List.mem_cons_of_mem _ hz)) with e | e
      · subst e; exact absurd (ha1 _ hz) (List.lt_irrefl _)
      · exact e
    · intro hz
      rcases List.mem_cons.1 ((h z).2 (List.mem_cons_of_mem _ hz)) with e | e
      · subst e; exact absurd (hb1 _ hz) (List.lt_irrefl _)
      · exact e
theorem bys_snoc (gl : List ByteArray) (t : ByteArray) : bys (gl ++ [t]) = bys gl ++ [t.data.toList] := by simp [bys]
/-- A name that is there already. -/
theorem nm_in {gl : List ByteArray} {t : ByteArray} (h : t.data.toList ∈ nmL gl) : nmL (gl ++ [t]) = nmL gl := by
  refine rise_ext (nm_facts _).1 (nm_facts _).1 fun x => ?_
  rw [(nm_facts _).2, (nm_facts _).2, bys_snoc, List.mem_append, List.mem_singleton]
  constructor
  · rintro (h' | h')
    · exact h'
    · rw [h']; exact ((nm_facts _).2 _).1 h
  · exact .inl
/-- A name that is new. -/
theorem nm_new {gl : List ByteArray} {t : ByteArray} (h : t.data.toList ∉ nmL gl) : (nmL (gl ++ [t])).filter (fun b => !decide (b = t.data.toList)) = nmL gl := by
  refine rise_ext ((nm_facts _).1.filter _) (nm_facts _).1 fun x => ?_
  rw [List.mem_filter, (nm_facts _).2, (nm_facts _).2, bys_snoc, List.mem_append, List.mem_singleton]
  constructor
  · rintro ⟨h1 | h1, h2⟩
    · exact h1
    · simp [h1] at h2
  · intro h1
    refine ⟨.inl h1, ?_⟩
    simp
    intro e
    exact h (by rw [← e]; exact ((nm_facts _).2 _).2 h1)
theorem rise_count {l : List (List UInt8)} {b : List UInt8} (hp : l.Pairwise (· < ·)) (hb : b ∈ l) : (l.filter (fun x => !decide (x = b))).length + 1 = l.length := by
  induction l with
  | nil => cases hb
  | cons x l ih =>
    obtain ⟨h1, h2⟩ := List.pairwise_cons.1 hp
    by_cases e : x = b
    · subst e
      have : l.filter (fun y => !decide (y = x)) = l := by
        rw [List.filter_eq_self]
        intro y hy
        simp
        intro e
        subst e
        exact List.lt_irrefl _ (h1 _ hy)
      simp [this]
    · have hb' : b ∈ l := by
        rcases List.mem_cons.1 hb with q | q
        · exact absurd q.symm e
        · exact q
      have := ih h2 hb'
      rw [List.filter_cons_of_pos (by simpa using e), List.length_cons, List.length_cons]
      omega
theorem nm_len {gl : List ByteArray} {t : ByteArray} (h : t.data.toList ∉ nmL gl) : (nmL (gl ++ [t])).length = (nmL gl).length + 1 := by
  have := rise_count (l := nmL (gl ++ [t])) (b := t.data.toList) (nm_facts _).1 (by rw [(nm_facts _).2, bys_snoc]; simp)
  rw [nm_new h] at this
  omega
end Go.Proofs.YtiahilelcppfgaaGreat
