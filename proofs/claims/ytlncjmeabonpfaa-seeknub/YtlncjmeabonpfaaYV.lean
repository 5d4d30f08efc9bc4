
/- Numbers of package seek: the items of what was sorted. -/

import Derived.Test.YtlncjmeabonpfaaYU

namespace Go.Proofs.Ytlncjmeabonpfaa

set_option linter.unusedVariables false

theorem pz_foldlQ (l : List Int) : ∀ a : Int, l.foldl (fun p z => if z = 0 then p else p * z) a = a * pz l := by
  induction l with
  | nil => intro a; simp [pz]
  | cons z l ih =>
    intro a
    simp only [pz, List.foldl_cons]
    rw [ih, ih]
    split
    · simp
    · rw [Int.one_mul, Int.mul_assoc]
theorem pz_consQ (z : Int) (l : List Int) : pz (z :: l) = (if z = 0 then 1 else z) * pz l := by
  conv => lhs; unfold pz; rw [List.foldl_cons, pz_foldlQ]
  simp
/-- Two orders of the same places are one. -/
theorem Pls.uniq {c : Int → Int → Int} {n : Nat} {ps qs : List Int} (hc : Cmp3 n c) (h : Pls c n ps) (g : Pls c n qs) : ps = qs := by
  have hl := h.len
  have gl := g.len
  have key : ∀ k, ∀ i, i < k → i < n → nth ps i = nth qs i := by
    intro k
    induction k with
    | zero => intro i hi; omega
    | succ k ih =>
      intro i hi hn
      rcases Nat.lt_or_ge i k with hk | hk
      · exact ih i hk hn
      · obtain rfl : i = k := by omega
        have a := h.inn i (by omega)
        have b := g.inn i (by omega)
        by_cases e : nth ps i = nth qs i
        · exact e
        · exfalso
          obtain ⟨j, hj, ej⟩ := g.all hc (q := (nth ps i).toNat) (by omega)
          obtain ⟨l, hl2, el⟩ := h.all hc (q := (nth qs i).toNat) (by omega)
          have ej' : nth qs j = nth ps i := by omega
          have el' : nth ps l = nth qs i := by omega
          have j1 : i < j := by
            rcases Nat.lt_trichotomy i j with x | x | x
            · exact x
            · subst x; exact absurd ej'.symm e
            · have := ih j x (by omega)
              have s := h.so j i (Nat.zero_le _) x hn
              rw [this, ej'] at s
              exact absurd (lx_irr hc a s) id
          have l1 : i < l := by
            rcases Nat.lt_trichotomy i l with x | x | x
            · exact x
            · subst x; exact absurd el' e
            · have := ih l x (by omega)
              have s := g.so l i (Nat.zero_le _) x hn
              rw [← this, el'] at s
              exact absurd (lx_irr hc b s) id
          have s1 := g.so i j (Nat.zero_le _) j1 hj
          have s2 := h.so i l (Nat.zero_le _) l1 hl2
          rw [ej'] at s1
          rw [el'] at s2
          exact lx_irr hc a (lx_trans hc a b a s2 s1)
  exact ext_nth (by omega) (fun k hk => key (k + 1) k (by omega) (by omega))
theorem flat_at : ∀ (l : List (List Int)) (z : Nat), (∀ x ∈ l, x.length = z) → ∀ (i : Nat) (h : i < l.length), (l.flatten.drop (i * z)).take z = l[i]
  | [], _, _, i, h => by simp at h
  | x :: l, z, hz, 0, _ => by
    have hx := hz x (by simp)
    rw [Nat.zero_mul, List.drop_zero, List.flatten_cons]
    show (x ++ l.flatten).take z = x
    rw [← hx, List.take_left']
    rfl
  | x :: l, z, hz, i + 1, h => by
    have hx := hz x (by simp)
    have ih := flat_at l z (fun y hy => hz y (by simp [hy])) i (by simpa using h)
    rw [List.flatten_cons, Nat.succ_mul, Nat.add_comm (i * z) z, ← List.drop_drop, List.drop_left' hx]
    simpa using ih
theorem flat_len (l : List (List Int)) (z : Nat) (h : ∀ x ∈ l, x.length = z) : l.flatten.length = l.length * z := by
  induction l with
  | nil => simp
  | cons x l ih =>
    rw [List.flatten_cons, List.length_append, h x (by simp), ih (fun y hy => h y (by simp [hy])), List.length_cons, Nat.succ_mul, Nat.add_comm]
theorem ahd_drop (sh : List Int) : sh.drop (ahd sh) = sh.drop 1 := by
  unfold ahd
  cases sh with
  | nil => rfl
  | cons a r => rw [show min 1 (a :: r).length = 1 by simp]
theorem ahd_pr {sh : List Int} (h : mayF sh = 0) : (pr (sh.take (ahd sh))).toNat = itN sh := rfl
/-- What an item is, by arr's words and by seek's. -/
theorem itX_itm {sh at' : List Int} (h : mayA sh at' = 0) {k : Nat} (hk : k < itN sh) : itmE sh at' k = 0 ∧ itmS sh at' k = (itX sh at' k).1 ∧ itmA sh at' k = (itX sh at' k).2 := by
  have hf := (mayA_zero h).1
  have ht := itN_tal hf
  have e : itmE sh at' k = 0 := itmE_in h (by omega)
  obtain ⟨e1, e2⟩ := itm_yes e
  refine ⟨e, by rw [e1]; exact (ahd_drop sh).symm, ?_⟩
  rw [e2]
  have z : itmZ sh at' = cuz sh at' (ahd sh) := by
    unfold itmZ cuz
    rw [ahd_pr hf, ← ht, Int.toNat_natCast]
  have j : itmJ sh k = k := by unfold itmJ; rw [if_neg (by omega)]; simp
  rw [z, j]
  rfl
theorem itX_len {sh at' : List Int} (h : mayA sh at' = 0) {k : Nat} (hk : k < itN sh) : (itX sh at' k).2.length = cuz sh at' (ahd sh) ∧ itN sh * cuz sh at' (ahd sh) = at'.length := by
  obtain ⟨hf, ha⟩ := mayA_zero h
  have e1 := pr_app (sh.take (ahd sh)) (sh.drop (ahd sh))
  rw [List.take_append_drop] at e1
  have hbd := pr_small hf (ahd sh) (by unfold ahd; omega)
  have hN : pr (sh.take (ahd sh)) = (itN sh : Int) := by unfold itN cun; omega
  rw [hN] at e1
  have e3 : itN sh ∣ at'.length := by
    have : (itN sh : Int) ∣ (at'.length : Int) := ⟨_, by rw [ha, e1]⟩
    exact Int.natCast_dvd_natCast.1 this
  have HZ : itN sh * cuz sh at' (ahd sh) = at'.length := by
    unfold cuz
    rw [ahd_pr hf, Nat.mul_div_cancel' e3]
  refine ⟨?_, HZ⟩
  show ((at'.drop (k * cuz sh at' (ahd sh))).take (cuz sh at' (ahd sh))).length = _
  rw [List.length_take, List.length_drop]
  have := Nat.mul_le_mul_right (cuz sh at' (ahd sh)) (show k + 1 ≤ itN sh by omega)
  rw [Nat.succ_mul] at this
  omega
/-- Some items of an array, one behind the other: an array that may be, and its items. -/
theorem cho_may {sh at' : List Int} {ps : List Int} {m : Nat} (h : mayA sh at' = 0) (hm : m ≤ itN sh) (hl : ps.length = m) (hp : inN (itN sh) ps) : mayA ((m : Int) :: sh.drop 1) (chA (itX sh at') ps m) = 0 ∧ itN ((m : Int) :: sh.drop 1) = m ∧
    ∀ i, i < m → itX ((m : Int) :: sh.drop 1) (chA (itX sh at') ps m) i = itX sh at' (nth ps i).toNat := by
  obtain ⟨hf, ha⟩ := mayA_zero h
  obtain ⟨f1, f2, f3⟩ := mayF_zero hf
  have hN4 := itN_le hf
  have ht := itN_tal hf
  have e1 : chA (itX sh at') ps m = ((ps.map (fun p => (itX sh at' p.toNat).2))).flatten := by unfold chA; rw [List.take_of_length_le (by omega)]
  have hz : ∀ x ∈ ps.map (fun p => (itX sh at' p.toNat).2), x.length = cuz sh at' (ahd sh) := fun x hx => by
    obtain ⟨p, hp1, rfl⟩ := List.mem_map.1 hx
    obtain ⟨i, hi, e⟩ := List.getElem_of_mem hp1
    have := hp i hi
    rw [nth_lt hi, e] at this
    exact (itX_len h (k := p.toNat) (by omega)).1
  have hlen : (chA (itX sh at') ps m).length = m * cuz sh at' (ahd sh) := by rw [e1, flat_len _ _ hz, List.length_map, hl]
  have hpd : 0 < itN sh → (pr (sh.drop 1)) = (cuz sh at' (ahd sh) : Int) := fun hpos => by
    have HZ := (itX_len h (k := 0) hpos).2
    have e2 := pr_app (sh.take (ahd sh)) (sh.drop (ahd sh))
    rw [List.take_append_drop, ahd_drop] at e2
    have hbd := pr_small hf (ahd sh) (by unfold ahd; omega)
    have hN : pr (sh.take (ahd sh)) = (itN sh : Int) := by unfold itN cun; omega
    rw [hN, ← ha, ← HZ, Int.natCast_mul] at e2
    exact (Int.eq_of_mul_eq_mul_left (by omega) e2).symm
  have prc : pr ((m : Int) :: sh.drop 1) = (m : Int) * pr (sh.drop 1) := by
    have := pr_app [(m : Int)] (sh.drop 1)
    rw [show [(m : Int)] ++ sh.drop 1 = (m : Int) :: sh.drop 1 from rfl] at this
    rw [this]
    congr 1
    simp [pr]
  have hmf : mayF ((m : Int) :: sh.drop 1) = 0 := by
    cases sh with
    | nil =>
      have : itN ([] : List Int) = 1 := by decide
      rw [this] at hm
      rcases Nat.lt_or_ge m 1 with x | x
      · obtain rfl : m = 0 := by omega
        decide
      · obtain rfl : m = 1 := by omega
        decide
    | cons a r =>
      have ha0 : a = (itN (a :: r) : Int) := by rw [ht]; rfl
      refine mayF_ok (fun k hk => ?_) (by simpa using f2) ?_
      · cases k with
        | zero => show (0 : Int) ≤ m; omega
        | succ k => exact f1 (k + 1) (by simpa using hk)
      · have hle : pz ((m : Int) :: r) ≤ pz (a :: r) := by
          have c1 : ∀ (b : Int), pz (b :: r) = (if b = 0 then 1 else b) * pz r := fun b => pz_consQ b r
          rw [c1, c1]
          have h1 : 1 ≤ pz r := by
            have := pz_pos (l := r) r.length (Nat.le_refl _) (fun k hk => f1 (k + 1) (by simpa using hk))
            rwa [List.take_length] at this
          refine Int.mul_le_mul_of_nonneg_right ?_ (by omega)
          split <;> split <;> omega
        show pz ((m : Int) :: r) ≤ 4096
        omega
  have hma : mayA ((m : Int) :: sh.drop 1) (chA (itX sh at') ps m) = 0 := by
    unfold mayA
    rw [if_neg (by rw [hmf]; simp), if_neg]
    rw [prc, hlen, Int.natCast_mul]
    intro hne
    apply hne
    rcases Nat.eq_zero_or_pos m with x | x
    · subst x; simp
    · rw [hpd (by omega)]
  have hitN : itN ((m : Int) :: sh.drop 1) = m := by
    have := itN_tal hmf
    have e : tal ((m : Int) :: sh.drop 1) = (m : Int) := by unfold tal; rw [if_neg (by simp)]; rfl
    omega
  refine ⟨hma, hitN, fun i hi => ?_⟩
  have hah : ahd ((m : Int) :: sh.drop 1) = 1 := by unfold ahd; simp
  have hcz : cuz ((m : Int) :: sh.drop 1) (chA (itX sh at') ps m) 1 = cuz sh at' (ahd sh) := by
    have := (itX_len hma (k := 0) (by omega)).2
    rw [hitN, hah, hlen] at this
    exact Nat.eq_of_mul_eq_mul_left (by omega) this
  have e2 : itX ((m : Int) :: sh.drop 1) (chA (itX sh at') ps m) i = (sh.drop 1, ((chA (itX sh at') ps m).drop (i * cuz sh at' (ahd sh))).take (cuz sh at' (ahd sh))) := by
    show ((((m : Int) :: sh.drop 1).drop (ahd ((m : Int) :: sh.drop 1))), ((chA (itX sh at') ps m).drop (i * cuz ((m : Int) :: sh.drop 1) (chA (itX sh at') ps m) (ahd ((m : Int) :: sh.drop 1)))).take (cuz ((m : Int) :: sh.drop 1) (chA (itX sh at') ps m) (ahd ((m : Int) :: sh.drop 1)))) = _
    rw [hah, hcz]
    rfl
  rw [e2, e1, flat_at _ _ hz i (by rw [List.length_map, hl]; exact hi)]
  have e3 : (itX sh at' (nth ps i).toNat).1 = sh.drop 1 := ahd_drop sh
  refine Prod.ext e3.symm ?_
  rw [List.getElem_map, nth_lt (by omega)]
end Go.Proofs.Ytlncjmeabonpfaa
