
/- All nodes of a term laid in a row: what the row tells of the term. -/

import Derived.Test.YtiahilelcppfgaaGreatNC

import Derived.Laws.Cover1

namespace Go.Proofs.YtiahilelcppfgaaGreat

open Go.RowKit Go.Sort

set_option linter.unusedVariables false

theorem getE_lt {d : Array (List UInt8)} {i : Nat} (h : i < d.size) : d[i]! = d[i] := getElem!_pos d i h
theorem lt_of_le_ne {a b : List UInt8} (h : a ≤ b) (hn : a ≠ b) : a < b := by
  by_cases q : a < b
  · exact q
  · exact absurd (List.le_antisymm h (List.not_lt.1 q)) hn
/-- What Compact makes of a rising list. -/
theorem comp_facts (d : Array (List UInt8)) (hs : ∀ i, i + 1 < d.size → d[i]! ≤ d[i + 1]!) : ∀ m, m ≤ d.size → (Lib.compactUpTo d m).Pairwise (· < ·) ∧ (∀ b ∈ Lib.compactUpTo d m, b ≤ d[m - 1]!) ∧ (∀ b, b ∈ Lib.compactUpTo d m ↔ ∃ i, i < m ∧ d[i]! = b)
  | 0, _ => by simp [Lib.compactUpTo]
  | m + 1, hm => by
    obtain ⟨h1, h2, h3⟩ := comp_facts d hs m (by omega)
    have hle : ∀ b ∈ Lib.compactUpTo d m, b ≤ d[m]! := fun b hb => by
      have h0 : 0 < m := by
        obtain ⟨i, hi, _⟩ := (h3 b).1 hb
        omega
      have q := hs (m - 1) (by omega)
      rw [show m - 1 + 1 = m by omega] at q
      exact List.le_trans (h2 b hb) q
    rw [Lib.compactUpTo_succ]
    cases hk : Lib.keeps d m
    · have hk' : ¬ (m = 0 ∨ d[m]! ≠ d[m - 1]!) := by unfold Lib.keeps at hk; simpa using hk
      have h0 : m ≠ 0 := fun e => hk' (.inl e)
      have he : d[m]! = d[m - 1]! := by
        by_cases e : d[m]! = d[m - 1]!
        · exact e
        · exact absurd (.inr e) hk'
      simp only [Bool.false_eq_true, if_false, List.append_nil]
      refine ⟨h1, fun b hb => hle b hb, fun b => ?_⟩
      rw [h3 b]
      constructor
      · rintro ⟨i, hi, e⟩; exact ⟨i, by omega, e⟩
      · rintro ⟨i, hi, e⟩
        by_cases hi' : i = m
        · subst hi'; exact ⟨i - 1, by omega, by rw [← he]; exact e⟩
        · exact ⟨i, by omega, e⟩
    · simp only [if_true]
      refine ⟨List.pairwise_append.2 ⟨h1, List.pairwise_singleton _ _, fun a ha b hb => ?_⟩, fun b hb => ?_, fun b => ?_⟩
      · rw [List.mem_singleton] at hb
        subst hb
        refine lt_of_le_ne (hle a ha) fun e => ?_
        obtain ⟨i, hi, q⟩ := (h3 a).1 ha
        have hk' : m = 0 ∨ d[m]! ≠ d[m - 1]! := by unfold Lib.keeps at hk; simpa using hk
        rcases hk' with h0 | hne
        · omega
        · have q2 := h2 a ha
          have q3 := hs (m - 1) (by omega)
          rw [show m - 1 + 1 = m by omega] at q3
          rw [e] at q2
          exact hne (List.le_antisymm q2 q3)
      · rw [Nat.add_sub_cancel]
        rcases List.mem_append.1 hb with hb | hb
        · exact hle b hb
        · rw [List.mem_singleton] at hb; rw [hb]; exact List.le_refl _
      · rw [List.mem_append, h3 b, List.mem_singleton]
        constructor
        · rintro (⟨i, hi, e⟩ | e)
          · exact ⟨i, by omega, e⟩
          · exact ⟨m, by omega, e.symm⟩
        · rintro ⟨i, hi, e⟩
          by_cases hi' : i = m
          · subst hi'; exact .inr e.symm
          · exact .inl ⟨i, by omega, e⟩
theorem sorted_le (l : List (List UInt8)) (i : Nat) (h : i + 1 < (l.mergeSort fun x y => decide (x ≤ y)).toArray.size) : (l.mergeSort fun x y => decide (x ≤ y)).toArray[i]! ≤ (l.mergeSort fun x y => decide (x ≤ y)).toArray[i + 1]! := by
  have tr : ∀ a b c : List UInt8, decide (a ≤ b) = true → decide (b ≤ c) = true → decide (a ≤ c) = true := fun a b c h1 h2 => by simp only [decide_eq_true_eq] at *; exact List.le_trans h1 h2
  have tt : ∀ a b : List UInt8, (decide (a ≤ b) || decide (b ≤ a)) = true := fun a b => by simp only [Bool.or_eq_true, decide_eq_true_eq]; exact List.le_total a b
  have hp := List.pairwise_mergeSort tr tt l
  have q := List.pairwise_iff_getElem.1 hp i (i + 1) (by simp at h; simpa using (by omega : i < l.length)) (by simpa using h) (Nat.lt_succ_self _)
  rw [getE_lt (by omega), getE_lt h]
  simpa using q
theorem nm_facts (gl : List ByteArray) : (nmL gl).Pairwise (· < ·) ∧ ∀ b, b ∈ nmL gl ↔ b ∈ bys gl := by
  obtain ⟨h1, _, h3⟩ := comp_facts ((bys gl).mergeSort fun x y => decide (x ≤ y)).toArray (sorted_le (bys gl)) ((bys gl).mergeSort fun x y => decide (x ≤ y)).length (by simp)
  refine ⟨h1, fun b => ?_⟩
  show b ∈ Lib.compactUpTo _ _ ↔ _
  rw [h3 b]
  constructor
  · rintro ⟨i, hi, e⟩
    rw [getE_lt (by simpa using hi)] at e
    have : b ∈ (bys gl).mergeSort fun x y => decide (x ≤ y) := by rw [← e]; simp
    exact List.mem_mergeSort.1 this
  · intro hb
    have : b ∈ (bys gl).mergeSort fun x y => decide (x ≤ y) := List.mem_mergeSort.2 hb
    obtain ⟨i, hi, e⟩ := List.mem_iff_getElem.1 this
    exact ⟨i, hi, by rw [getE_lt (by simpa using hi)]; simpa using e⟩
/-- Rising lists of the same texts are the same. -/
theorem rise_ext : ∀ {a b : List (List UInt8)}, a.Pairwise (· < ·) → b.Pairwise (· < ·) → (∀ x, x ∈ a ↔ x ∈ b) → a = b
  | [], [], _, _, _ => rfl
  | [], y :: b, _, _, h => absurd ((h y).2 (by simp)) (by simp)
  | x :: a, [], _, _, h => absurd ((h x).1 (by simp)) (by simp)
  | x :: a, y :: b, ha, hb, h => by
    obtain ⟨ha1, ha2⟩ := List.pairwise_cons.1 ha
    obtain ⟨hb1, hb2⟩ := List.pairwise_cons.1 hb
    have e : x = y := by
      rcases List.mem_cons.1 ((h x).1 (by simp)) with e | e
      · exact e
      · rcases List.mem_cons.1 ((h y).2 (by simp)) with e2 | e2
        · exact e2.symm
        · exact absurd (List.lt_trans (hb1 x e) (ha1 y e2)) (List.lt_irrefl _)
    subst e
    congr 1
    refine rise_ext ha2 hb2 fun z => ?_
    constructor
    · intro hz
      rcases List.mem_cons.1 ((h z).1 (List.mem_cons_of_mem _ hz)) with e | e
      · subst e; exact absurd (ha1 _ hz) (List.lt_irrefl _)
      · exact e
    · intro hz
      rcases List.mem_cons.1 ((h z).2 (List.mem_cons_of_mem _ hz)) with e | e
      · subst e; exact absurd (hb1 _ hz) (List.lt_irrefl _)
      · exact e
end Go.Proofs.YtiahilelcppfgaaGreat

namespace Go.Proofs.YtiahilelcppfgaaGreat

open Go.RowKit

set_option linter.unusedVariables false

/-- A slice that reads as texts. -/
def Sx (W : World) (o : Option Addr) (l : List (List UInt8)) : Prop := 0 < l.length → ∃ g, o = some ⟨g, 0, none⟩ ∧ Sr W g l
theorem Sx.below {W V : World} {o : Option Addr} {l : List (List UInt8)} (h : Sx W o l) (b : Below W.heap.size W V) : Sx V o l := fun h0 => by
  obtain ⟨g, e, s⟩ := h h0
  exact ⟨g, e, s.below b⟩
theorem getD_ext {a b : List (List UInt8)} (hl : a.length = b.length) (h : ∀ k, k < a.length → a.getD k [] = b.getD k []) : a = b := by
  apply List.ext_getElem hl
  intro i h1 h2
  have := h i h1
  simpa [List.getD, h1, h2] using this
set_option linter.unusedSimpArgs false in
set_option maxHeartbeats 1000000 in
theorem texts_any (a b : List (List UInt8)) (ao bo : Option Addr) (ac bc : Nat) (w : World) (ha : Sx w ao a) (hb : Sx w bo b) (la : a.length ≤ 5000) (lb : b.length ≤ 5000) :
    Calls Tryz.prog 18 #[.slice ao a.length ac, .slice bo b.length bc] w fun e w' => e = .returned (.bool (decide (a = b))) ∧ ∃ q, w' = w.drewN q := by
  have HE : Hid (∀ h : a.length = b.length, (∀ k, k < a.length → a.getD k [] = b.getD k []) → decide (a = b) = true) := fun hl h => by simp; exact getD_ext hl h
  have HN : Hid (∀ k, a.getD k [] ≠ b.getD k [] → decide (a = b) = false) := fun k h => by simp; intro e; exact h (by rw [e])
  have HZ : Hid (a.length ≠ b.length → decide (a = b) = false) := fun h => by simp; intro e; exact h (by rw [e])
  obtain ⟨D, hD⟩ : ∃ D, D = decide (a = b) := ⟨_, rfl⟩
  rw [← hD] at HE HN HZ ⊢
  clear hD
  have ha' : Hid (∀ k, k < a.length → ∃ g, ao = some ⟨g, 0, none⟩ ∧ w.cell? ⟨g, k, none⟩ = some (.string ⟨(a.getD k []).toArray⟩)) := fun k hk => by
    obtain ⟨g, e, s⟩ := ha (by omega)
    exact ⟨g, e, (s.cells k hk).1⟩
  have hb' : Hid (∀ k, k < b.length → ∃ g, bo = some ⟨g, 0, none⟩ ∧ w.cell? ⟨g, k, none⟩ = some (.string ⟨(b.getD k []).toArray⟩)) := fun k hk => by
    obtain ⟨g, e, s⟩ := hb (by omega)
    exact ⟨g, e, (s.cells k hk).1⟩
  clear ha hb
  generalize hn : a.length = n at *
  generalize hm : b.length = m at *
  by_cases hnm : n = m
  · subst hnm
    have e0 : ((n : Int) != (n : Int)) = false := by simp
    go_enter Tryz.func18, Tryz.ntmps18
    go_wp2
    go_loopw [5] (fun i wr => ∃ k : Nat, k ≤ n ∧ i = .int .i64 (k : Nat) ∧ (∀ j, j < k → a.getD j [] = b.getD j []) ∧ ∃ q, wr = w.drewN q) (fun i _ => n - (intOf i).toNat)
    case atStart => exact ⟨0, Nat.zero_le _, rfl, fun j hj => by omega, 0, rfl⟩
    case round =>
      obtain ⟨k, hk, rfl, hz, q, rfl⟩ := hrel
      by_cases hlt : k < n
      · obtain ⟨g, rfl, c1⟩ := ha'.out k hlt
        obtain ⟨g2, rfl, c2⟩ := hb'.out k hlt
        have HZ' : Hid (∀ j, j < k → a.getD j [] = b.getD j []) := hz
        clear hz
        have t3 : decide ((k : Int) < (n : Int)) = true := by simp; omega
        by_cases he : a.getD k [] = b.getD k []
        · have HK : Hid (a.getD k [] = b.getD k []) := he
          rw [← he] at c2
          clear he
          generalize (⟨(a.getD k []).toArray⟩ : ByteArray) = sa at *
          have hne : (sa.toList == sa.toList) = true := by simp
          go_wp2
          go_quiet (fail)
          go_wp2
          go_roundw
          case rel => exact ⟨k + 1, by omega, by go_num, fun j hj => by by_cases e : j = k; (· subst e; exact HK.out); exact HZ'.out j (by omega), _, rfl⟩
          case measure => simp [intOf]; omega
        · have HK : Hid (a.getD k [] ≠ b.getD k []) := he
          have hne : ((⟨(a.getD k []).toArray⟩ : ByteArray).toList == (⟨(b.getD k []).toArray⟩ : ByteArray).toList) = false := by
            rw [ByteArray.toList_mk, ByteArray.toList_mk]; simpa using he
          clear he
          generalize (⟨(a.getD k []).toArray⟩ : ByteArray) = sa at *
          generalize (⟨(b.getD k []).toArray⟩ : ByteArray) = sb at *
          go_wp2
          go_quiet (fail)
          go_wp2
          go_ret
          exact ⟨ret_bool (HN.out k HK.out).symm, q + nq, by simp⟩
      · obtain rfl : k = n := by omega
        have t3 : decide ((k : Int) < (k : Int)) = false := by simp
        have HZ' : Hid (∀ j, j < k → a.getD j [] = b.getD j []) := hz
        clear hz
        go_wp2
        go_ret
        exact ⟨ret_bool (HE.out (by first | rfl | trivial) HZ'.out).symm, _, rfl⟩
  · have hnm' : ((n : Int) != (m : Int)) = true := by simp; omega
    have HNM : Hid (n ≠ m) := hnm
    clear hnm
    go_enter Tryz.func18, Tryz.ntmps18
    go_wp2
    go_ret
    exact ⟨ret_bool (HZ.out HNM.out).symm, 0, rfl⟩
end Go.Proofs.YtiahilelcppfgaaGreat

namespace Go.Proofs.YtiahilelcppfgaaGreat

open Go.RowKit

set_option linter.unusedVariables false

/-- A node in the row: how deep it lies, whether it lies in a definition of one argument. -/
structure Nz where
  d : Nat
  x : Tr (d + 1)
  dp : Nat
  b : Bool
def bareZ (z : Nz) : Bool := if z.x.nd.k = 23 then decide (z.x.nd.n = 1) else z.b
def kidsZ : Nz → List Nz
  | ⟨0, _, _, _⟩ => []
  | ⟨d + 1, x, dp, b⟩ => x.ks.map fun y => ⟨d, y, dp + 1, if x.nd.k = 23 then decide (x.nd.n = 1) else b⟩
theorem ks_zero (x : Tr 1) : x.ks = [] := by
  cases h : x.ks with
  | nil => rfl
  | cons y _ => exact nomatch y
theorem kidsZ_len : ∀ z : Nz, (kidsZ z).length = z.x.ks.length
  | ⟨0, x, _, _⟩ => by rw [ks_zero]; rfl
  | ⟨d + 1, x, dp, b⟩ => List.length_map _
/-- The row, from place i on. -/
def rowF : Nat → Nat → List Nz → Option (List Nz)
  | 0, _, l => some l
  | f + 1, i, l => match l[i]? with
    | none => some l
    | some z => if 256 < z.dp ∨ 4096 < l.length + z.x.ks.length then none else rowF f (i + 1) (l ++ kidsZ z)
def rowT (d : Nat) (x : Tr (d + 1)) : Option (List Nz) := rowF 4097 0 [⟨d, x, 1, false⟩]
theorem rowF_none {f i : Nat} {l : List Nz} (h : l.length ≤ i) : rowF (f + 1) i l = some l := by
  rw [rowF, List.getElem?_eq_none h]
theorem rowF_some {f i : Nat} {l : List Nz} {z : Nz} (h : l[i]? = some z) : rowF (f + 1) i l = if 256 < z.dp ∨ 4096 < l.length + z.x.ks.length then none else rowF f (i + 1) (l ++ kidsZ z) := by
  rw [rowF, h]
theorem drop_at {α : Type} {l : List α} {i : Nat} {z : α} (h : l[i]? = some z) : l.drop i = z :: l.drop (i + 1) := by
  obtain ⟨hi, e⟩ := List.getElem?_eq_some_iff.1 h
  rw [List.drop_eq_getElem_cons hi, e]
theorem drop_snoc {α : Type} {l k : List α} {i : Nat} (h : i < l.length) : (l ++ k).drop (i + 1) = l.drop (i + 1) ++ k := by
  rw [List.drop_append_of_le_length (by omega)]
/-- What is said of a node and of all below it is said of all in the row. -/
theorem row_all {A P : Nz → Prop} (hA : ∀ z, A z ↔ (P z ∧ ∀ y ∈ kidsZ z, A y)) : ∀ (f i : Nat) (l m : List Nz), l.length ≤ 4096 → 4097 ≤ f + i → i ≤ l.length → rowF f i l = some m → ((∀ z ∈ l.drop i, A z) ↔ ∀ z ∈ m.drop i, P z) ∧ l <+: m
  | 0, i, l, m, h1, h2, h3, h => by omega
  | f + 1, i, l, m, h1, h2, h3, h => by
    cases hz : l[i]? with
    | none =>
      rw [rowF_none (List.getElem?_eq_none_iff.1 hz)] at h
      injection h with h
      subst h
      rw [List.drop_eq_nil_of_le (List.getElem?_eq_none_iff.1 hz)]
      exact ⟨by simp, List.prefix_refl _⟩
    | some z =>
      rw [rowF_some hz] at h
      split at h
      · cases h
      rename_i hno
      have hi : i < l.length := (List.getElem?_eq_some_iff.1 hz).1
      obtain ⟨ih, hp⟩ := row_all hA f (i + 1) (l ++ kidsZ z) m (by rw [List.length_append, kidsZ_len]; omega) (by omega) (by rw [List.length_append]; omega) h
      have hp0 : l <+: m := (List.prefix_append _ _).trans hp
      have hmz : m[i]? = some z := by
        obtain ⟨t, rfl⟩ := hp0
        rw [List.getElem?_append_left hi]; exact hz
      rw [drop_snoc hi] at ih
      refine ⟨?_, hp0⟩
      rw [drop_at hz, drop_at hmz]
      simp only [List.mem_cons, forall_eq_or_imp]
      rw [← ih, hA z]
      simp only [List.mem_append]
      constructor
      · rintro ⟨⟨h1, h2⟩, h3⟩
        exact ⟨h1, fun y hy => hy.elim (h3 y) (h2 y)⟩
      · rintro ⟨h1, h2⟩
        exact ⟨⟨h1, fun y hy => h2 y (.inr hy)⟩, fun y hy => h2 y (.inl hy)⟩
theorem psum_sum {α : Type} (g : α → Nat) (l : List α) : ∀ m, m ≤ l.length → psum (fun i => (l[i]?).elim 0 g) m = ((l.take m).map g).sum
  | 0, _ => rfl
  | m + 1, h => by
    have hm : m < l.length := h
    rw [psum, psum_sum g l m (by omega), List.take_succ_eq_append_getElem hm, List.map_append, List.sum_append]
    simp [List.getElem?_eq_getElem hm]
/-- All nodes below. -/
def tot (l : List Nz) : Nat := (l.map fun z => nds (z.d + 1) z.x).sum
theorem tot_kids : ∀ z : Nz, nds (z.d + 1) z.x = 1 + tot (kidsZ z)
  | ⟨0, x, _, _⟩ => by
    show 1 + psum _ x.ks.length = _
    rw [ks_zero]; rfl
  | ⟨d + 1, x, dp, b⟩ => by
    show 1 + psum (fun i => (x.ks[i]?).elim 0 (nds (d + 1))) x.ks.length = 1 + ((x.ks.map _).map _).sum
    rw [psum_sum _ _ _ (Nat.le_refl _), List.take_length, List.map_map]
    rfl
theorem tot_cons (z : Nz) (l : List Nz) : tot (z :: l) = nds (z.d + 1) z.x + tot l := by simp [tot]
theorem tot_app (l k : List Nz) : tot (l ++ k) = tot l + tot k := by simp [tot]
theorem tot_len : ∀ l : List Nz, l.length ≤ tot l
  | [] => Nat.zero_le _
  | z :: l => by
    have := tot_len l
    have := nds_one (z.d + 1) z.x
    rw [tot_cons, List.length_cons]; omega
/-- Where a node and all below it reach. -/
def rc (z : Nz) : Nat := z.dp + dep (z.d + 1) z.x
theorem pmax_iff (f : Nat → Nat) (B : Nat) : ∀ m, pmax f m ≤ B ↔ ∀ i, i < m → f i ≤ B
  | 0 => by simp [pmax]
  | m + 1 => by
    simp only [pmax]
    rw [Nat.max_le, pmax_iff f B m]
    constructor
    · rintro ⟨h1, h2⟩ i hi
      by_cases e : i = m
      · subst e; exact h2
      · exact h1 i (by omega)
    · intro h
      exact ⟨fun i hi => h i (by omega), h m (by omega)⟩
theorem rc_iff (B : Nat) : ∀ z : Nz, rc z ≤ B ↔ (z.dp + 1 ≤ B ∧ ∀ y ∈ kidsZ z, rc y ≤ B)
  | ⟨0, x, dp, b⟩ => by
    have e : dep 1 x = 1 := by show 1 + pmax _ x.ks.length = 1; rw [ks_zero]; rfl
    simp [rc, kidsZ, e]
  | ⟨d + 1, x, dp, b⟩ => by
    have e : dep (d + 2) x = 1 + pmax (fun i => (x.ks[i]?).elim 0 (dep (d + 1))) x.ks.length := rfl
    show dp + dep (d + 2) x ≤ B ↔ (dp + 1 ≤ B ∧ ∀ y ∈ x.ks.map _, rc y ≤ B)
    rw [e]
    constructor
    · intro h
      refine ⟨by omega, fun y hy => ?_⟩
      obtain ⟨t, ht, rfl⟩ := List.mem_map.1 hy
      obtain ⟨i, hi, e2⟩ := List.mem_iff_getElem.1 ht
      have := (pmax_iff (fun i => (x.ks[i]?).elim 0 (dep (d + 1))) (B - dp - 1) x.ks.length).1 (by omega) i hi
      simp only [List.getElem?_eq_getElem hi, Option.elim, e2] at this
      show dp + 1 + dep (d + 1) t ≤ B
      omega
    · rintro ⟨h1, h2⟩
      have := (pmax_iff (fun i => (x.ks[i]?).elim 0 (dep (d + 1))) (B - dp - 1) x.ks.length).2 (fun i hi => by
        simp only [List.getElem?_eq_getElem hi, Option.elim]
        have q := h2 _ (List.mem_map.2 ⟨x.ks[i], List.getElem_mem hi, rfl⟩)
        have q' : dp + 1 + dep (d + 1) x.ks[i] ≤ B := q
        omega)
      omega
/-- The row ends, or the term is too great. -/
theorem row_ends : ∀ (f i : Nat) (l : List Nz), l.length ≤ 4096 → 4097 ≤ f + i → i ≤ l.length → (∃ m, rowF f i l = some m ∧ m.length = i + tot (l.drop i) ∧ m.length ≤ 4096 ∧ ∀ z ∈ m.drop i, z.dp ≤ 256) ∨ (rowF f i l = none ∧ (4096 < i + tot (l.drop i) ∨ ∃ z ∈ l.drop i, 257 < rc z))
  | 0, i, l, h1, h2, h3 => by omega
  | f + 1, i, l, h1, h2, h3 => by
    cases hz : l[i]? with
    | none =>
      have hle := List.getElem?_eq_none_iff.1 hz
      rw [rowF_none hle, List.drop_eq_nil_of_le hle]
      exact .inl ⟨l, rfl, by show l.length = i + 0; omega, h1, by rw [List.drop_eq_nil_of_le hle]; simp⟩
    | some z =>
      have hi : i < l.length := (List.getElem?_eq_some_iff.1 hz).1
      have hk := tot_kids z
      have hkl := tot_len (kidsZ z)
      rw [kidsZ_len] at hkl
      rw [rowF_some hz, drop_at hz, tot_cons]
      by_cases hb : 256 < z.dp ∨ 4096 < l.length + z.x.ks.length
      · rw [if_pos hb]
        refine .inr ⟨rfl, ?_⟩
        rcases hb with hb | hb
        · right
          refine ⟨z, by simp, ?_⟩
          have : 1 ≤ dep (z.d + 1) z.x := Nat.le_add_right _ _
          unfold rc; omega
        · left
          have h4 := tot_len (l.drop (i + 1))
          rw [List.length_drop] at h4
          omega
      · rw [if_neg hb]
        have q := row_ends f (i + 1) (l ++ kidsZ z) (by rw [List.length_append, kidsZ_len]; omega) (by omega) (by rw [List.length_append]; omega)
        rw [drop_snoc hi, tot_app] at q
        rcases q with ⟨m, e, hm, hm2, hd⟩ | ⟨e, hm⟩
        · refine .inl ⟨m, e, by omega, hm2, fun y hy => ?_⟩
          have hp : l ++ kidsZ z <+: m := (row_all (A := fun _ => True) (P := fun _ => True) (by simp) f (i + 1) (l ++ kidsZ z) m (by rw [List.length_append, kidsZ_len]; omega) (by omega) (by rw [List.length_append]; omega) e).2
          have hmz : m[i]? = some z := by
            obtain ⟨t, rfl⟩ := (List.prefix_append _ _).trans hp
            rw [List.getElem?_append_left hi]; exact hz
          rw [drop_at hmz] at hy
          rcases List.mem_cons.1 hy with rfl | hy
          · omega
          · exact hd y hy
        · refine .inr ⟨e, ?_⟩
          rcases hm with hm | ⟨y, hy, hm⟩
          · left; omega
          · right
            rcases List.mem_append.1 hy with hy | hy
            · exact ⟨y, List.mem_cons_of_mem _ hy, hm⟩
            · refine ⟨z, by simp, ?_⟩
              by_cases hc : 257 < rc z
              · exact hc
              · have := ((rc_iff 257 z).1 (by omega)).2 y hy
                omega
/-- The row and the term's size. -/
theorem row_size (d : Nat) (x : Tr (d + 1)) : (szO (d + 1) x = true → ∃ m, rowT d x = some m ∧ m.length = nds (d + 1) x) ∧ (szO (d + 1) x = false → rowT d x = none) := by
  have q := row_ends 4097 0 [⟨d, x, 1, false⟩] (by simp) (by omega) (by simp)
  have e1 : tot (([⟨d, x, 1, false⟩] : List Nz).drop 0) = nds (d + 1) x := by simp [tot]
  rw [e1] at q
  have hso : szO (d + 1) x = decide (nds (d + 1) x ≤ 4096 ∧ dep (d + 1) x ≤ 256) := rfl
  have hrc : rc ⟨d, x, 1, false⟩ = 1 + dep (d + 1) x := rfl
  rcases q with ⟨m, e, hm, hm2, hd⟩ | ⟨e, hm⟩
  · refine ⟨fun _ => ⟨m, e, by omega⟩, fun h => ?_⟩
    have hr := (row_all (A := fun z => rc z ≤ 257) (P := fun z => z.dp + 1 ≤ 257) (rc_iff 257) 4097 0 _ m (by simp) (by omega) (by simp) e).1.2 (fun z hz => by have := hd z hz; omega) ⟨d, x, 1, false⟩ (by simp)
    rw [hso] at h
    simp at h
    rw [hrc] at hr
    have := h (by omega)
    omega
  · refine ⟨fun h => ?_, fun _ => e⟩
    rw [hso] at h
    have h' := of_decide_eq_true h
    rcases hm with hm | ⟨z, hz, hm⟩
    · omega
    · simp at hz
      subst hz
      rw [hrc] at hm
      omega
end Go.Proofs.YtiahilelcppfgaaGreat
