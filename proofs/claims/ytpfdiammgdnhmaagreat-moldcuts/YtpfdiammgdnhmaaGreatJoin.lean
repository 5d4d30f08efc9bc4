
/- An append to a list of one's own, and what agrees with what. -/

import Derived.Test.YtpfdiammgdnhmaaGreatWalks
import Derived.Laws.AppendOwnNone

namespace Go.Proofs.YtpfdiammgdnhmaaGreat

open Go.RowKit

set_option linter.unusedVariables false

def lits (zs : List Int) : Bool := decide (zs.length ≤ 100) && zs.all fun z => decide (-10000 ≤ z ∧ z ≤ 10000)

theorem rdA (W : World) (zs : List Int) (h : lits zs = true) : Rd (W.alloc (.cells (zs.map (Value.int .i64)).toArray 3)) (some ⟨W.heap.size, 0, none⟩) zs.length zs := by
  simp only [lits, Bool.and_eq_true, decide_eq_true_eq, List.all_eq_true] at h
  refine ⟨rfl, by omega, fun k hk => ?_, fun _ => ⟨W.heap.size, 0, rfl, by simp, fun k hk => ?_⟩⟩
  · have := h.2 _ (nth_mem hk); omega
  · have hb := World.alloc_heap_new W (.cells (zs.map (Value.int .i64)).toArray 3)
    have := cell_of_row (W.alloc (.cells (zs.map (Value.int .i64)).toArray 3)) W.heap.size (0 + k) _ 3 (0, 0) hb
    rw [this, Nat.zero_add]
    simpa using nth_map hk
theorem rdB (W : World) (o : Obj) (zs : List Int) (h : lits zs = true) : Rd ((W.alloc o).alloc (.cells (zs.map (Value.int .i64)).toArray 3)) (some ⟨W.heap.size + 1, 0, none⟩) zs.length zs := by
  have := rdA (W.alloc o) zs h
  rwa [World.size_alloc] at this
theorem slA (a : Addr) (n : Nat) (h : n ≤ 100) : Sl (some a) n n := ⟨fun e => (by cases e), Nat.le_refl _, by omega⟩

theorem b_size (W : World) : Calls Tryz.prog 22 #[.slice (some ⟨W.heap.size, 0, none⟩) 3 3] (W.alloc (.cells #[.int .i64 2, .int .i64 3, .int .i64 4] 3)) fun e w' => e = .returned (.tuple #[.int .i64 24, .int .i64 0]) ∧ Below W.heap.size W w' :=
  (size_any _ 3 3 [2, 3, 4] _ (rdA W [2, 3, 4] (by decide))).mono fun e w' ⟨h1, h2⟩ => ⟨h1, by rw [h2]; exact (Below.refl _ _).alloc (Nat.le_refl _) _⟩
theorem b_place (W : World) : Calls Tryz.prog 118 #[.slice (some ⟨W.heap.size, 0, none⟩) 3 3, .slice (some ⟨W.heap.size + 1, 0, none⟩) 3 3] ((W.alloc (.cells #[.int .i64 2, .int .i64 3, .int .i64 4] 3)).alloc (.cells #[.int .i64 1, .int .i64 2, .int .i64 3] 3))
    fun e w' => e = .returned (.tuple #[.int .i64 23, .int .i64 0]) ∧ Below W.heap.size W w' :=
  (place_any _ _ 3 3 3 3 [2, 3, 4] [1, 2, 3] _ ((rdA W [2, 3, 4] (by decide)).alloc _) (rdB W _ [1, 2, 3] (by decide))).mono fun e w' ⟨h1, h2⟩ => ⟨h1, by rw [h2]; exact ((Below.refl _ _).alloc (Nat.le_refl _) _).alloc (by simp) _⟩
theorem b_split (W : World) : Calls Tryz.prog 83 #[.slice (some ⟨W.heap.size, 0, none⟩) 3 3, .int .i64 (-1)] (W.alloc (.cells #[.int .i64 2, .int .i64 3, .int .i64 4] 3))
    fun e w' => ∃ co c do' d, e = .returned (.tuple #[.slice co 1 c, .slice do' 2 d]) ∧ Rd w' co 1 [2] ∧ Rd w' do' 2 [3, 4] ∧ Below W.heap.size W w' :=
  (split_any _ 3 3 [2, 3, 4] (-1) _ (rdA W [2, 3, 4] (by decide)) (slA _ 3 (by omega)) (by omega) (by omega)).mono fun e w' ⟨co, c, do', d, h1, h2, h3, h4, h5⟩ => ⟨co, c, do', d, h1, h2.rd, h3.rd, ((Below.refl _ _).alloc (Nat.le_refl _) _).trans (h5.mono (by simp))⟩
theorem b_agree (W : World) : Calls Tryz.prog 100 #[.slice (some ⟨W.heap.size, 0, none⟩) 1 1, .slice (some ⟨W.heap.size + 1, 0, none⟩) 2 2] ((W.alloc (.cells #[.int .i64 2] 3)).alloc (.cells #[.int .i64 2, .int .i64 3] 3))
    fun e w' => ∃ co k c, e = .returned (.tuple #[.slice co k c, .int .i64 0]) ∧ Rd w' co k [2, 3] ∧ Below W.heap.size W w' :=
  (agree_any _ _ 1 2 1 2 [2] [2, 3] _ ((rdA W [2] (by decide)).alloc _) (rdB W _ [2, 3] (by decide)) (slA _ 1 (by omega)) (slA _ 2 (by omega))).mono fun e w' ⟨co, k, c, h1, h2, h3⟩ => ⟨co, k, c, h1, h2.rd, (((Below.refl _ _).alloc (Nat.le_refl _) _).alloc (by simp) _).trans (h3.mono (by simp; omega))⟩
theorem b_cover (W : World) : Calls Tryz.prog 68 #[.slice (some ⟨W.heap.size + 1 + 1, 0, none⟩) 2 2] (((W.alloc (.cells #[.int .i64 3] 3)).alloc (.cells #[.int .i64 2, .int .i64 1] 3)).alloc (.cells #[.slice (some ⟨W.heap.size, 0, none⟩) 1 1, .slice (some ⟨W.heap.size + 1, 0, none⟩) 2 2] 25))
    fun e w' => ∃ co k c, e = .returned (.tuple #[.slice co k c, .int .i64 0]) ∧ Rd w' co k [2, 3] ∧ Below W.heap.size W w' := by
  have hs : Rs (((W.alloc (.cells #[.int .i64 3] 3)).alloc (.cells #[.int .i64 2, .int .i64 1] 3)).alloc (.cells #[.slice (some ⟨W.heap.size, 0, none⟩) 1 1, .slice (some ⟨W.heap.size + 1, 0, none⟩) 2 2] 25)) (some ⟨W.heap.size + 1 + 1, 0, none⟩) 2 [[3], [2, 1]] := by
    refine ⟨rfl, by omega, fun _ => ⟨W.heap.size + 1 + 1, 0, rfl, by simp, fun k hk => ?_⟩⟩
    have hb := World.alloc_heap_new ((W.alloc (.cells #[.int .i64 3] 3)).alloc (.cells #[.int .i64 2, .int .i64 1] 3)) (.cells #[.slice (some ⟨W.heap.size, 0, none⟩) 1 1, .slice (some ⟨W.heap.size + 1, 0, none⟩) 2 2] 25)
    simp only [World.size_alloc] at hb
    have hc := fun j => cell_of_row _ _ j _ 25 (0, 0) hb
    match k, hk with
    | 0, _ => exact ⟨_, _, _, (hc 0).trans rfl, ((rdA W [3] (by decide)).alloc _).alloc _, slA _ 1 (by omega)⟩
    | 1, _ => exact ⟨_, _, _, (hc 1).trans rfl, (rdB W _ [2, 1] (by decide)).alloc _, slA _ 2 (by omega)⟩
  exact (cover_any _ 2 2 [[3], [2, 1]] _ hs).mono fun e w' ⟨co, k, c, h1, h2, h3⟩ => ⟨co, k, c, h1, h2.rd, ((((Below.refl _ _).alloc (Nat.le_refl _) _).alloc (by simp) _).alloc (by simp; omega) _).trans (h3.mono (by simp; omega))⟩
theorem b_may (W : World) : Calls Tryz.prog 27 #[.slice (some ⟨W.heap.size, 0, none⟩) 2 2] (W.alloc (.cells #[.int .i64 64, .int .i64 65] 3)) fun e w' => e = .returned (.int .i64 17) ∧ Below W.heap.size W w' :=
  (may_any _ 2 2 [64, 65] _ (rdA W [64, 65] (by decide))).mono fun e w' ⟨h1, h2⟩ => ⟨h1, by rw [h2]; exact (Below.refl _ _).alloc (Nat.le_refl _) _⟩
theorem b_eq (W : World) (zs : List Int) (hz : lits zs = true) (co : Option Addr) (k c : Nat) (h : Rd W co k zs) : Calls Tryz.prog 19 #[.slice co k c, .slice (some ⟨W.heap.size, 0, none⟩) zs.length zs.length] (W.alloc (.cells (zs.map (Value.int .i64)).toArray 3)) fun e w' => e = .returned (.bool true) ∧ Below W.heap.size W w' :=
  (eqInts_any _ _ k _ c _ zs zs _ (h.alloc _) (rdA W zs hz)).mono fun e w' ⟨h1, q, h2⟩ => ⟨by rw [h1, eqB_refl], by rw [h2]; exact below_drewN ((Below.refl _ _).alloc (Nat.le_refl _) _) q⟩
theorem b_all (W : World) : Calls Tryz.prog 117 #[.slice (some ⟨W.heap.size, 0, none⟩) 2 2] (W.alloc (.cells #[.int .i64 1, .int .i64 2] 3)) fun e w' => ∃ B1 B2 co c, e = .returned (.func (.func 122) #[] #[.pointer (some ⟨B1, 0, none⟩), .pointer (some ⟨B2, 0, none⟩)]) ∧ Sq w' B1 B2 co 2 c [1, 2] ∧ Below W.heap.size W w' :=
  (all_any _ 2 2 [1, 2] _ (rdA W [1, 2] (by decide))).mono fun e w' ⟨B1, B2, co, c, h1, h2, h3, h4, h5, h6⟩ => ⟨B1, B2, co, c, h1, h2, ((Below.refl _ _).alloc (Nat.le_refl _) _).trans (h6.mono (by simp))⟩
theorem bt {B : Nat} {a b c : World} (h : Below B a b) (k : Below b.heap.size b c) (hB : B ≤ b.heap.size) : Below B a c := h.trans (k.mono hB)

end Go.Proofs.YtpfdiammgdnhmaaGreat



namespace Go.Proofs.YtpfdiammgdnhmaaGreat

open Go.RowKit

set_option linter.unusedVariables false

theorem run_join {w : World} (ty : TypeId) (B : Nat) (ao bo : Option Addr) (n cap m cap' : Nat) (zs ys : List Int) (h : Fr w B ao n cap zs) (g : Rd w bo m ys) (gs : Sl bo m cap') (hr : (n + m) * 8 ≤ 140737488351232) (hB : B ≤ w.heap.size) :
    ∃ co c w', (Builtin.append_ #[22, 22] ty #[.slice ao n cap, .slice bo m cap']).run Tryz.prog w = .ok (.slice co (n + m) c) w' ∧ Fr w' B co (n + m) c (zs ++ ys) ∧ w.grownBy w' (Value.slice ao n cap).ownBlock := by
  obtain ⟨i0, hi, hz0, hz1, hz2⟩ := info_parts info3
  have hl := h.rd.len
  have gl := g.len
  have hnum : ∀ k, k < n + m → -9223372036854775808 ≤ nth (zs ++ ys) k ∧ nth (zs ++ ys) k ≤ 9223372036854775807 := by
    intro k hk
    by_cases c : k < n
    · have e : nth (zs ++ ys) k = nth zs k := by unfold nth; simp [List.getElem?_append, hl, c]
      rw [e]; exact h.rd.num k c
    · have e : nth (zs ++ ys) k = nth ys (k - n) := by unfold nth; simp [List.getElem?_append, hl, c]
      rw [e]; exact g.num _ (by omega)
  have fin : ∀ v w', w'.ownsRow B 3 1 v (n + m) (zs.map (Value.int .i64) ++ ys.map (Value.int .i64)) → ∃ co c, v = .slice co (n + m) c ∧ Fr w' B co (n + m) c (zs ++ ys) := fun v w' ho =>
    Fr.mk' (by simp [hl, gl]) hr hnum (by rw [List.map_append]; exact ho)
  cases bo with
  | none =>
    obtain ⟨rfl, rfl⟩ := gs.nil rfl
    have hy : ys = [] := List.eq_nil_of_length_eq_zero gl
    subst hy
    have hrun := run_append_owned_none (P := Tryz.prog) (w := w) B 22 ty 3 i0 1 Tryz.underlying22 hi _ n _ h.own
    refine ⟨ao, cap, w, hrun, ?_, World.grownBy.refl _ _⟩
    rw [List.append_nil]; exact h
  | some a =>
    have hnews : ∀ j u, (ys.map (Value.int .i64))[j]? = some u → w.cell? (a.add j) = some u := by
      intro j u hu
      have hj : j < m := by
        have := (List.getElem?_eq_some_iff.1 hu).1
        simpa [gl] using this
      obtain ⟨b, off, e, _, hc⟩ := g.cells (by omega)
      cases e
      exact Rd.news gl hc j u hu
    obtain ⟨v', w', hrun, hown, hgrow, _⟩ := run_append_own (P := Tryz.prog) w B 22 ty 3 i0 (.int .i64 0) 1 8 Tryz.underlying22 hi hz0 hz1 hz2 rfl (by decide) _ n _ h.own a m cap' (ys.map (Value.int .i64)) (by rw [List.length_map, gl, Nat.mul_one]) hnews (ints_one ys) (by unfold maxLen; omega) (by omega) hB
    obtain ⟨co, c, rfl, hf⟩ := fin _ _ hown
    exact ⟨co, c, w', hrun, hf, hgrow⟩

theorem wpList_join {w : World} {ops : Array Oper} {rest : List Oper} {o : Oper} {a : Act} {Q : Exit → Act → World → Prop} (hgd : o.guard = none) (s x : Operand)
    (ho : o.op = .call { callee := .builtin .append, args := #[s, x], argTypes := #[22, 22] }) (B : Nat) (ao bo : Option Addr) (n cap m cap' : Nat) (zs ys : List Int)
    (hs : a.eval s = .slice ao n cap) (hx : a.eval x = .slice bo m cap') (h : Fr w B ao n cap zs) (g : Rd w bo m ys) (gs : Sl bo m cap') (hr : (n + m) * 8 ≤ 140737488351232) (hB : B ≤ w.heap.size)
    (hK : ∀ co c w', Fr w' B co (n + m) c (zs ++ ys) → Below B w w' → wpList Tryz.prog ops Q rest (a.put o.dst (.slice co (n + m) c)) w') : wpList Tryz.prog ops Q (o :: rest) a w := by
  obtain ⟨co, c, w', hrun, hf, hg⟩ := run_join o.type B ao bo n cap m cap' zs ys h g gs hr hB
  refine wpList_append_run hgd s x 22 ho _ (by rw [hs, hx]; exact hrun) (hK _ _ _ hf ((Below.refl _ _).grown hg hB ?_))
  intro k e
  exact (h.own.lt k e).1

theorem take_all {zs : List Int} {n : Nat} (h : zs.length = n) : zs.take n = zs := by rw [← h, List.take_length]

theorem agr_pre (zs : List Int) (p : Nat) (hp : p ≤ zs.length) : agrE (zs.take p) zs = 0 ∧ agrL (zs.take p) zs = zs := by
  have hb : agrB (zs.take p) zs = true := by
    unfold agrB
    rw [if_neg (by rw [List.length_take]; omega), List.length_take, Nat.min_eq_left hp]
    exact eqB_refl _
  exact ⟨by unfold agrE; rw [if_pos hb], by unfold agrL; rw [if_pos hb, if_neg (by rw [List.length_take]; omega)]⟩

theorem agrB_comm (a b : List Int) : agrB a b = agrB b a := by
  unfold agrB
  by_cases h : b.length < a.length
  · rw [if_pos h, if_neg (by omega)]
  · by_cases h2 : a.length < b.length
    · rw [if_neg h, if_pos h2]
    · have e : a.length = b.length := by omega
      rw [if_neg h, if_neg h2, ← e, List.take_length]
      rw [show b.take a.length = b by rw [e, List.take_length]]
      unfold eqB
      by_cases c : a = b
      · rw [c]
      · rw [decide_eq_false c, decide_eq_false (fun e => c e.symm)]
theorem agrE_comm (a b : List Int) : agrE a b = agrE b a := by unfold agrE; rw [agrB_comm]
theorem agr_true {a b : List Int} (h : agrB a b = true) : (agrL a b).take a.length = a ∧ (agrL a b).take b.length = b ∧ (agrL a b).length = Nat.max a.length b.length := by
  have e : agrL a b = if b.length < a.length then a else b := by unfold agrL; rw [if_pos h]
  unfold agrB at h
  by_cases c : b.length < a.length
  · rw [if_pos c] at h e
    simp only [eqB, decide_eq_true_eq] at h
    rw [e]
    exact ⟨List.take_length, h.symm, (Nat.max_eq_left (by omega)).symm⟩
  · rw [if_neg c] at h e
    simp only [eqB, decide_eq_true_eq] at h
    rw [e]
    exact ⟨h.symm, List.take_length, (Nat.max_eq_right (by omega)).symm⟩
theorem agrL_comm (a b : List Int) : agrL a b = agrL b a := by
  by_cases h : agrB a b = true
  · have h' : agrB b a = true := by rw [← agrB_comm]; exact h
    have h1 := agr_true h
    unfold agrL
    rw [if_pos h, if_pos h']
    by_cases c : b.length < a.length
    · rw [if_pos c, if_neg (by omega)]
    · by_cases c2 : a.length < b.length
      · rw [if_neg c, if_pos c2]
      · rw [if_neg c, if_neg c2]
        have e := agr_true h
        unfold agrL at e
        rw [if_pos h, if_neg c] at e
        have := e.1
        rw [show a.length = b.length by omega, List.take_length] at this
        exact this
  · have h' : ¬ agrB b a = true := by rw [← agrB_comm]; exact h
    unfold agrL; rw [if_neg h, if_neg h']
theorem agr_post (zs : List Int) (p : Nat) (hp : p ≤ zs.length) : agrE zs (zs.take p) = 0 ∧ agrL zs (zs.take p) = zs := by
  rw [agrE_comm, agrL_comm]; exact agr_pre zs p hp
end Go.Proofs.YtpfdiammgdnhmaaGreat
