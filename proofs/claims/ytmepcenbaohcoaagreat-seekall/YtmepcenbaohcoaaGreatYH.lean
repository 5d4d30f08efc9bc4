
/- Contracts of package seek: finding an item. -/

import Derived.Test.YtmepcenbaohcoaaGreatYG

namespace Go.Proofs.YtmepcenbaohcoaaGreat

open Go.RowKit

set_option linter.unusedVariables false

/-- A way from the first n numbers into themselves that leads no two to one leads to each. -/
theorem pigeon : ∀ (n : Nat) (f : Nat → Nat), (∀ k, k < n → f k < n) → (∀ i j, i < n → j < n → f i = f j → i = j) → ∀ q, q < n → ∃ k, k < n ∧ f k = q
  | 0, _, _, _ => fun q hq => by omega
  | n + 1, f, h1, h2 => fun q hq => by
    have ih := pigeon n (fun k => if f k = n then f n else f k) (fun k hk => by
      have a := h1 k (by omega)
      have b := h1 n (by omega)
      have c := h2 k n (by omega) (by omega)
      show (if f k = n then f n else f k) < n
      split
      · rename_i e
        rcases Nat.lt_or_ge (f n) n with h | h
        · exact h
        · have : f k = f n := by omega
          have := c this; omega
      · omega) (fun i j hi hj e => by
      have c1 := h2 i j (by omega) (by omega)
      have c2 := h2 i n (by omega) (by omega)
      have c3 := h2 j n (by omega) (by omega)
      have e' : (if f i = n then f n else f i) = (if f j = n then f n else f j) := e
      by_cases x : f i = n
      · by_cases y : f j = n
        · exact c1 (x.trans y.symm)
        · rw [if_pos x, if_neg y] at e'
          have := c3 e'.symm; omega
      · by_cases y : f j = n
        · rw [if_neg x, if_pos y] at e'
          have := c2 e'; omega
        · rw [if_neg x, if_neg y] at e'
          exact c1 e')
    by_cases v : f n = q
    · exact ⟨n, by omega, v⟩
    · by_cases qn : q = n
      · have b := h1 n (by omega)
        obtain ⟨k, hk, e⟩ := ih (f n) (by omega)
        have e' : (if f k = n then f n else f k) = f n := e
        by_cases x : f k = n
        · exact ⟨k, by omega, by omega⟩
        · rw [if_neg x] at e'
          have := h2 k n (by omega) (by omega) e'; omega
      · obtain ⟨k, hk, e⟩ := ih q (by omega)
        have e' : (if f k = n then f n else f k) = q := e
        by_cases x : f k = n
        · rw [if_pos x] at e'; exact absurd e' v
        · rw [if_neg x] at e'; exact ⟨k, by omega, e'⟩
/-- Each place stands among the places. -/
theorem Pls.all {c : Int → Int → Int} {n : Nat} {ps : List Int} (h : Pls c n ps) (hc : Cmp3 n c) {q : Nat} (hq : q < n) : ∃ k, k < n ∧ nth ps k = q := by
  have hl := h.len
  obtain ⟨k, hk, e⟩ := pigeon n (fun k => (nth ps k).toNat) (fun k hk => by have := h.inn k (by omega); show (nth ps k).toNat < n; omega) (fun i j hi hj e => by
    have e' : (nth ps i).toNat = (nth ps j).toNat := e
    have a := h.inn i (by omega)
    have b := h.inn j (by omega)
    have e2 : nth ps i = nth ps j := by omega
    rcases Nat.lt_trichotomy i j with x | x | x
    · have := h.so i j (Nat.zero_le _) x hj
      rw [e2] at this
      exact absurd (lx_irr hc b this) id
    · exact x
    · have := h.so j i (Nat.zero_le _) x hi
      rw [e2] at this
      exact absurd (lx_irr hc b this) id) q hq
  have e' : (nth ps k).toNat = q := e
  have := h.inn k (by omega)
  exact ⟨k, hk, by omega⟩
/-- The place of the first one that is the same; n, if there is none. -/
def fsq (xs : Nat → List Int × List Int) (n : Nat) (t : List Int × List Int) : Nat := (List.range n).findIdx (fun k => decide (xs k = t))
structure FsQ (xs : Nat → List Int × List Int) (n : Nat) (t : List Int × List Int) (r : Nat) : Prop where
  le : r ≤ n
  no : ∀ k, k < r → xs k ≠ t
  yes : r < n → xs r = t
theorem fsq_is (xs : Nat → List Int × List Int) (n : Nat) (t : List Int × List Int) : FsQ xs n t (fsq xs n t) := by
  unfold fsq
  refine ⟨by have := List.findIdx_le_length (xs := List.range n) (p := fun k => decide (xs k = t)); simpa using this, fun k hk => ?_, fun h => ?_⟩
  · have := List.not_of_lt_findIdx hk
    simpa using this
  · have := List.findIdx_getElem (xs := List.range n) (p := fun k => decide (xs k = t)) (w := by simpa using h)
    simpa using this
theorem FsQ.is {xs : Nat → List Int × List Int} {n : Nat} {t : List Int × List Int} {r : Nat} (h : FsQ xs n t r) : fsq xs n t = r := by
  have g := fsq_is xs n t
  rcases Nat.lt_trichotomy (fsq xs n t) r with x | x | x
  · have := g.yes (by have := h.le; omega)
    exact absurd this (h.no _ x)
  · exact x
  · have := h.yes (by have := g.le; omega)
    exact absurd this (g.no _ x)
theorem fsq_le (xs : Nat → List Int × List Int) (n : Nat) (t : List Int × List Int) : fsq xs n t ≤ n := (fsq_is xs n t).le
/-- How an item stands to what is sought. -/
def cTo (xs : Nat → List Int × List Int) (t : List Int × List Int) (x : Int) : Int := cmpA (xs x.toNat).1 (xs x.toNat).2 t.1 t.2
theorem cTo_zero {xs : Nat → List Int × List Int} {t : List Int × List Int} {x : Int} : cTo xs t x = 0 ↔ xs x.toNat = t := by
  unfold cTo
  rw [cmpA_zero]
  constructor
  · rintro ⟨a, b⟩; exact Prod.ext a b
  · intro e; rw [e]; exact ⟨rfl, rfl⟩
theorem cTo_le {xs : Nat → List Int × List Int} {t : List Int × List Int} {x y : Int} (h : cUp xs x y ≤ 0) (g : cTo xs t y ≤ 0) : cTo xs t x ≤ 0 ∧ (cTo xs t x = 0 → cUp xs x y = 0 ∧ cTo xs t y = 0) := by
  have := cmpA_T3 (xs x.toNat).1 (xs x.toNat).2 (xs y.toNat).1 (xs y.toNat).2 t.1 t.2
  exact this.le h g
theorem lx_le {c : Int → Int → Int} {x y : Int} (h : lx c x y) : c x y ≤ 0 := by unfold lx at h; omega
/-- Where the search by halves among the places ends, the first one stands. -/
theorem found_at {xs : Nat → List Int × List Int} {n : Nat} {ps : List Int} {t : List Int × List Int} {i : Nat} (h : Pls (cUp xs) n ps) (hi : i ≤ n) (lo : ∀ k, k < i → cTo xs t (nth ps k) < 0) (hi2 : ∀ k, i ≤ k → k < n → 0 ≤ cTo xs t (nth ps k)) :
    (i < n → cTo xs t (nth ps i) = 0 → nth ps i = (fsq xs n t : Nat)) ∧ ((i < n → cTo xs t (nth ps i) ≠ 0) → fsq xs n t = n) := by
  have hl := h.len
  constructor
  · intro hin h0
    have b := h.inn i (by omega)
    obtain ⟨r, hr⟩ : ∃ r : Nat, nth ps i = r := ⟨(nth ps i).toNat, by omega⟩
    rw [hr]
    have e0 : xs r = t := by have := cTo_zero.1 h0; rwa [hr, Int.toNat_natCast] at this
    have : FsQ xs n t r := ⟨by omega, fun k hk e => by
      obtain ⟨j, hj, ej⟩ := h.all (cUp3 n xs) (q := k) (by omega)
      have z : cTo xs t (nth ps j) = 0 := by rw [ej]; exact cTo_zero.2 (by rw [Int.toNat_natCast]; exact e)
      rcases Nat.lt_trichotomy i j with x | x | x
      · have l := h.so i j (Nat.zero_le _) x hj
        have z2 := (cTo_le (t := t) (lx_le l) (by omega)).2 h0
        unfold lx at l
        omega
      · subst x; omega
      · have := lo j x; omega, fun _ => e0⟩
    rw [this.is]
  · intro hne
    have : FsQ xs n t n := ⟨Nat.le_refl _, fun k hk e => by
      obtain ⟨j, hj, ej⟩ := h.all (cUp3 n xs) (q := k) hk
      have z : cTo xs t (nth ps j) = 0 := by rw [ej]; exact cTo_zero.2 (by rw [Int.toNat_natCast]; exact e)
      rcases Nat.lt_trichotomy i j with x | x | x
      · have l := h.so i j (Nat.zero_le _) x hj
        have z2 := cTo_le (t := t) (lx_le l) (by omega)
        have := hi2 i (Nat.le_refl _) (by omega)
        have := hne (by omega)
        omega
      · subst x; exact hne hj z
      · have := lo j x; omega, fun h => by omega⟩
    exact this.is

set_option maxHeartbeats 1000000 in
theorem first1_any (io : Option Addr) (n ic : Nat) (xs : Nat → List Int × List Int) (po : Option Addr) (pn pc : Nat) (so ao : Option Addr) (sn sc an ac : Nat) (s a : List Int) (fb : Nat) (x : Int) (V : World)
    (hf : V.heap[fb]? = some (.cells #[.slice io n ic, .slice po pn pc] 78 (0, 0))) (has : AsQ V io n xs) (hs : Rd V so sn s) (ha : Rd V ao an a) (x0 : 0 ≤ x) (xn : x < n) :
    Calls Tryz.prog 85 #[.int .i64 x, .agg #[.slice so sn sc, .slice ao an ac], .pointer (some ⟨fb, 0, none⟩)] V fun e w' => e = .returned (.int .i64 (cTo xs (s, a) x)) ∧ Below V.heap.size V w' := by
  obtain ⟨i, rfl⟩ : ∃ i : Nat, x = i := ⟨x.toNat, by omega⟩
  obtain ⟨b, off, rfl, hb, hc⟩ := has.cells (by omega)
  obtain ⟨so', sn', sc', uo', tn', tc', c1, c2, c3, c4, c5, c6⟩ := hc i (by omega)
  have bi : (i : Int) < (n : Int) := by omega
  have fl := (Array.getElem?_eq_some_iff.1 hf).1
  have k1 := box_below V (.cells #[.slice so sn sc, .slice ao an ac] 30)
  have b1 := allocNew V (.cells #[.slice so sn sc, .slice ao an ac] 30)
  have al : ∀ U, Below (V.heap.size + 1) (V.alloc (.cells #[.slice so sn sc, .slice ao an ac] 30)) U → U.cell? ⟨fb, 0, none⟩ = some (.slice (some ⟨b, off, none⟩) n ic) ∧ U.cell? ⟨b, off + i * 2, none⟩ = some (.slice so' sn' sc') ∧ U.cell? ⟨b, off + i * 2 + 1, none⟩ = some (.slice uo' tn' tc') ∧ U.cell? ⟨V.heap.size, 0, none⟩ = some (.slice so sn sc) ∧ U.cell? ⟨V.heap.size, 1, none⟩ = some (.slice ao an ac) ∧ Below (V.heap.size + 1) (V.alloc (.cells #[.slice so sn sc, .slice ao an ac] 30)) U := fun U hU => by
    have hV := k1.trans (hU.mono (by omega))
    exact ⟨(hV.cell (p := ⟨fb, 0, none⟩) fl).trans ((cell_of_row V fb 0 _ _ (0, 0) hf).trans rfl), (hV.cell (p := ⟨b, off + i * 2, none⟩) hb).trans c1, (hV.cell (p := ⟨b, off + i * 2 + 1, none⟩) hb).trans c2, (hU.cell (p := ⟨V.heap.size, 0, none⟩) (by simp)).trans ((cell_of_row _ _ 0 _ _ (0, 0) b1).trans rfl), (hU.cell (p := ⟨V.heap.size, 1, none⟩) (by simp)).trans ((cell_of_row _ _ 1 _ _ (0, 0) b1).trans rfl), hU⟩
  have hcm : ∀ U, Below (V.heap.size + 1) (V.alloc (.cells #[.slice so sn sc, .slice ao an ac] 30)) U → Calls Tryz.prog 86 #[.agg #[.slice so' sn' sc', .slice uo' tn' tc'], .agg #[.slice so sn sc, .slice ao an ac]] U fun e w' => e = .returned (.int .i64 (cTo xs (s, a) (i : Int))) ∧ Below (V.heap.size + 1) (V.alloc (.cells #[.slice so sn sc, .slice ao an ac] 30)) w' := fun U hU => by
    have hV := k1.trans (hU.mono (by omega))
    have := cmpA_any so' uo' so ao sn' sc' tn' tc' sn sc an ac _ _ _ _ U (c3.below hV (Nat.le_refl _)) (c5.below hV (Nat.le_refl _)) (hs.below hV (Nat.le_refl _)) (ha.below hV (Nat.le_refl _))
    exact this.mono fun e w' ⟨e1, e2⟩ => ⟨e1, hU.trans (e2.mono (by have := hU.size; simp at this; omega))⟩
  have hrf : Below (V.heap.size + 1) (V.alloc (.cells #[.slice so sn sc, .slice ao an ac] 30)) (V.alloc (.cells #[.slice so sn sc, .slice ao an ac] 30)) := Below.refl _ _
  generalize cTo xs (s, a) (i : Int) = r at *
  clear hc c3 c4 c5 c6 has
  go_enter Tryz.func85, Tryz.ntmps85
  go_wp2
  go_region_held3 (fun U => U.cell? ⟨fb, 0, none⟩ = some (.slice (some ⟨b, off, none⟩) n ic) ∧ U.cell? ⟨b, off + i * 2, none⟩ = some (.slice so' sn' sc') ∧ U.cell? ⟨b, off + i * 2 + 1, none⟩ = some (.slice uo' tn' tc') ∧ U.cell? ⟨V.heap.size, 0, none⟩ = some (.slice so sn sc) ∧ U.cell? ⟨V.heap.size, 1, none⟩ = some (.slice ao an ac) ∧ Below (V.heap.size + 1) (V.alloc (.cells #[.slice so sn sc, .slice ao an ac] 30)) U) (first | exact al _ (by assumption) | exact al _ hrf.drew | exact al _ hrf)
    (first
      | (go_at_call 86; (with_reducible refine (hcm _ (‹_ ∧ _ ∧ _ ∧ _ ∧ _ ∧ Below (V.heap.size + 1) _ _›).2.2.2.2.2).mono ?_); rintro e w5 ⟨rfl, b5⟩))
  go_wp2
  go_ret
  exact ⟨rfl, k1.trans (b5.mono (by omega))⟩

set_option maxHeartbeats 4000000 in
set_option maxRecDepth 20000 in
theorem bsearch_any (io : Option Addr) (n ic : Nat) (xs : Nat → List Int × List Int) (po : Option Addr) (pc : Nat) (ps : List Int) (so ao : Option Addr) (sn sc an ac : Nat) (s a : List Int) (fb : Nat) (w : World)
    (hf : w.heap[fb]? = some (.cells #[.slice io n ic, .slice po n pc] 78 (0, 0))) (has : AsQ w io n xs) (hs : Rd w so sn s) (ha : Rd w ao an a) (hp : Rd w po n ps) (P : Pls (cUp xs) n ps) (hn : n ≤ 4096) :
    Calls Tryz.prog 84 #[.slice po n pc, .agg #[.slice so sn sc, .slice ao an ac], .func (.func 85) #[] #[.pointer (some ⟨fb, 0, none⟩)]] w fun e w' => ∃ (i : Nat) (f : Bool), e = .returned (.tuple #[.int .i64 (i : Nat), .bool f]) ∧ (f = true → i < n ∧ nth ps i = (fsq xs n (s, a) : Nat)) ∧ (f = false → fsq xs n (s, a) = n) ∧ Below w.heap.size w w' := by
  have fl := (Array.getElem?_eq_some_iff.1 hf).1
  have k1 := box_below w (.cells #[.slice so sn sc, .slice ao an ac] 30)
  have b1 := allocNew w (.cells #[.slice so sn sc, .slice ao an ac] 30)
  have HP : Hid (Pls (cUp xs) n ps) := P
  have hcl : ∀ V, Below (w.heap.size + 1) (w.alloc (.cells #[.slice so sn sc, .slice ao an ac] 30)) V → ∀ x : Int, 0 ≤ x → x < n → Calls Tryz.prog 85 #[.int .i64 x, .agg #[.slice so sn sc, .slice ao an ac], .pointer (some ⟨fb, 0, none⟩)] V fun e w' => e = .returned (.int .i64 (cTo xs (s, a) x)) ∧ Below (w.heap.size + 1) (w.alloc (.cells #[.slice so sn sc, .slice ao an ac] 30)) w' := fun V hV x x0 x1 => by
    have hW := k1.trans (hV.mono (by omega))
    have := first1_any io n ic xs po n pc so ao sn sc an ac s a fb x V ((hW.block fb fl).trans hf) (has.below hW (Nat.le_refl _)) (hs.below hW (Nat.le_refl _)) (ha.below hW (Nat.le_refl _)) x0 x1
    exact this.mono fun e w' ⟨e1, e2⟩ => ⟨e1, hV.trans (e2.mono (by have := hV.size; simp at this; omega))⟩
  have bx : ∀ U, Below (w.heap.size + 1) (w.alloc (.cells #[.slice so sn sc, .slice ao an ac] 30)) U → U.cell? ⟨w.heap.size, 0, none⟩ = some (.slice so sn sc) ∧ U.cell? ⟨w.heap.size, 1, none⟩ = some (.slice ao an ac) := fun U hU =>
    ⟨(hU.cell (p := ⟨w.heap.size, 0, none⟩) (by simp)).trans ((cell_of_row _ _ 0 _ _ (0, 0) b1).trans rfl), (hU.cell (p := ⟨w.heap.size, 1, none⟩) (by simp)).trans ((cell_of_row _ _ 1 _ _ (0, 0) b1).trans rfl)⟩
  have hrf : Below (w.heap.size + 1) (w.alloc (.cells #[.slice so sn sc, .slice ao an ac] 30)) (w.alloc (.cells #[.slice so sn sc, .slice ao an ac] 30)) := Below.refl _ _
  have HR : Hid (∀ V, Below (w.heap.size + 1) (w.alloc (.cells #[.slice so sn sc, .slice ao an ac] 30)) V → Rd V po n ps) := fun V hV => hp.below (k1.trans (hV.mono (by omega))) (Nat.le_refl _)
  have HPL : Hid (ps.length = n) := P.len
  have HM : Hid (∀ i j, i < j → j < n → cTo xs (s, a) (nth ps j) < 0 → cTo xs (s, a) (nth ps i) < 0) := fun i j i1 i2 i3 => by
    have := cTo_le (t := (s, a)) (lx_le (P.so i j (Nat.zero_le _) i1 i2)) (by omega)
    have := this.2
    omega
  have HI : Hid (inN n ps) := P.inn
  clear has hs ha hp P hf
  generalize hWW : w.alloc (.cells #[.slice so sn sc, .slice ao an ac] 30) = W at *
  have HT : Hid (∀ (i : Nat), i ≤ n → (∀ k, k < i → cTo xs (s, a) (nth ps k) < 0) → (∀ k, i ≤ k → k < n → 0 ≤ cTo xs (s, a) (nth ps k)) → (i < n → cTo xs (s, a) (nth ps i) = 0 → nth ps i = (fsq xs n (s, a) : Nat)) ∧ ((i < n → cTo xs (s, a) (nth ps i) ≠ 0) → fsq xs n (s, a) = n)) := fun i i1 i2 i3 => found_at HP.out i1 i2 i3
  generalize cTo xs (s, a) = ct at *
  generalize fsq xs n (s, a) = r at *
  clear HP b1
  subst hWW
  go_enter Tryz.func84, Tryz.ntmps84
  go_wp2
  generalize hWW : w.alloc (.cells #[.slice so sn sc, .slice ao an ac] 30) = W at *
  go_loopw [9, 10] (fun iv jv V => ∃ (i j : Nat), i ≤ j ∧ j ≤ n ∧ iv = .int .i64 (i : Nat) ∧ jv = .int .i64 (j : Nat) ∧ Below (w.heap.size + 1) W V ∧ (∀ k, k < i → ct (nth ps k) < 0) ∧ ∀ k, j ≤ k → k < n → 0 ≤ ct (nth ps k)) (fun iv jv _ => (intOf jv).toNat - (intOf iv).toNat)
  case atStart => exact ⟨0, n, Nat.zero_le _, Nat.le_refl _, rfl, rfl, hrf, fun k hk => by omega, fun k k1 k2 => by omega⟩
  case round =>
    obtain ⟨i, j, hij, jn, rfl, rfl, B, LO, HH⟩ := hrel
    have RV := HR.out _ B
    obtain ⟨x0, x1⟩ := bx _ B
    by_cases hlt : i < j
    · obtain ⟨d, hd⟩ : ∃ d : Nat, d = (i + j) / 2 := ⟨_, rfl⟩
      have t1 : decide ((i : Int) < (j : Int)) = true := by simp; omega
      have wa := wrY (z := (i : Int) + (j : Int)) (by omega) (by omega)
      have ed : ((i : Int) + (j : Int)) / 2 = (d : Int) := by omega
      have wd := wrY (z := (d : Int) + 1) (by omega) (by omega)
      have bd1 : i ≤ d := by omega
      have bd2 : d < j := by omega
      have bd : (d : Int) < (n : Int) := by omega
      have zd := HI.out d (by rw [HPL.out]; omega)
      obtain ⟨b, off, rfl, hb, hc⟩ := RV.cells (by omega)
      have cd := hc d (by omega)
      have al : ∀ U, Below (w.heap.size + 1) W U → U.cell? ⟨b, off + d, none⟩ = some (.int .i64 (nth ps d)) ∧ U.cell? ⟨w.heap.size, 0, none⟩ = some (.slice so sn sc) ∧ U.cell? ⟨w.heap.size, 1, none⟩ = some (.slice ao an ac) ∧ Below (w.heap.size + 1) W U := fun U hU => by
        obtain ⟨b', off', e, hb', hc'⟩ := (HR.out U hU).cells (by omega)
        cases e
        exact ⟨hc' d (by omega), (bx U hU).1, (bx U hU).2, hU⟩
      have hcd : ∀ U, Below (w.heap.size + 1) W U → _ := fun U hU => hcl U hU (nth ps d) zd.1 zd.2
      clear hd hc RV
      generalize hpd : nth ps d = pd at *
      have HPD : Hid (nth ps d = pd) := hpd
      clear hpd
      by_cases hcc : ct pd < 0
      · have d2 : decide (ct pd < 0) = true := by simpa using hcc
        go_wp2
        go_region_held3 (fun U => U.cell? ⟨b, off + d, none⟩ = some (.int .i64 pd) ∧ U.cell? ⟨w.heap.size, 0, none⟩ = some (.slice so sn sc) ∧ U.cell? ⟨w.heap.size, 1, none⟩ = some (.slice ao an ac) ∧ Below (w.heap.size + 1) W U) (first | exact al _ (by assumption) | exact al _ (Below.drew (by assumption)))
          (first
            | (go_at_call 85; (with_reducible refine (hcd _ (‹_ ∧ _ ∧ _ ∧ Below (w.heap.size + 1) _ _›).2.2.2).mono ?_); rintro e w5 ⟨rfl, b5⟩))
        go_wp2
        go_roundw
        case rel =>
          refine ⟨d + 1, j, by omega, jn, by go_num, rfl, b5, fun k hk => ?_, HH⟩
          rcases Nat.lt_or_ge k d with hkd | hkd
          · exact HM.out k d hkd (by omega) (by rw [HPD.out]; exact hcc)
          · obtain rfl : k = d := by omega
            rw [HPD.out]; exact hcc
        case measure => simp [intOf]; omega
      · have d2 : decide (ct pd < 0) = false := by simpa using hcc
        go_wp2
        go_region_held3 (fun U => U.cell? ⟨b, off + d, none⟩ = some (.int .i64 pd) ∧ U.cell? ⟨w.heap.size, 0, none⟩ = some (.slice so sn sc) ∧ U.cell? ⟨w.heap.size, 1, none⟩ = some (.slice ao an ac) ∧ Below (w.heap.size + 1) W U) (first | exact al _ (by assumption) | exact al _ (Below.drew (by assumption)))
          (first
            | (go_at_call 85; (with_reducible refine (hcd _ (‹_ ∧ _ ∧ _ ∧ Below (w.heap.size + 1) _ _›).2.2.2).mono ?_); rintro e w5 ⟨rfl, b5⟩))
        go_wp2
        go_roundw
        case rel =>
          refine ⟨i, d, bd1, by omega, rfl, rfl, b5, LO, fun k k1 k2 => ?_⟩
          rcases Nat.lt_or_ge d k with hkd | hkd
          · rcases Int.lt_or_le (ct (nth ps k)) 0 with hx | hx
            · have := HM.out d k hkd k2 hx
              rw [HPD.out] at this; omega
            · exact hx
          · obtain rfl : k = d := by omega
            rw [HPD.out]; omega
        case measure => simp [intOf]; omega
    · obtain rfl : i = j := by omega
      have t1 : decide ((i : Int) < (i : Int)) = false := by simp
      obtain ⟨T1, T2⟩ := HT.out i jn LO HH
      by_cases hin : i < n
      · have t2 : decide ((i : Int) < (n : Int)) = true := by simp; omega
        have bd : (i : Int) < (n : Int) := by omega
        have zd := HI.out i (by rw [HPL.out]; omega)
        obtain ⟨b, off, rfl, hb, hc⟩ := RV.cells (by omega)
        have cd := hc i (by omega)
        have al : ∀ U, Below (w.heap.size + 1) W U → U.cell? ⟨b, off + i, none⟩ = some (.int .i64 (nth ps i)) ∧ U.cell? ⟨w.heap.size, 0, none⟩ = some (.slice so sn sc) ∧ U.cell? ⟨w.heap.size, 1, none⟩ = some (.slice ao an ac) ∧ Below (w.heap.size + 1) W U := fun U hU => by
          obtain ⟨b', off', e, hb', hc'⟩ := (HR.out U hU).cells (by omega)
          cases e
          exact ⟨hc' i (by omega), (bx U hU).1, (bx U hU).2, hU⟩
        have hcd : ∀ U, Below (w.heap.size + 1) W U → _ := fun U hU => hcl U hU (nth ps i) zd.1 zd.2
        clear hc RV LO HH
        have HT1 : Hid (ct (nth ps i) = 0 → nth ps i = (r : Nat)) := T1 hin
        have HT2 : Hid (ct (nth ps i) ≠ 0 → r = n) := fun hx => T2 (fun _ => hx)
        clear T1 T2
        generalize hpd : nth ps i = pd at *
        have HPD : Hid (nth ps i = pd) := hpd
        clear hpd
        by_cases hcc : ct pd = 0
        · have d2 : (ct pd == 0) = true := by simpa using hcc
          have HCC : Hid (ct pd = 0) := hcc
          clear hcc
          go_wp2
          go_region_held3 (fun U => U.cell? ⟨b, off + i, none⟩ = some (.int .i64 pd) ∧ U.cell? ⟨w.heap.size, 0, none⟩ = some (.slice so sn sc) ∧ U.cell? ⟨w.heap.size, 1, none⟩ = some (.slice ao an ac) ∧ Below (w.heap.size + 1) W U) (first | exact al _ (by assumption) | exact al _ (Below.drew (by assumption)))
            (first
              | (go_at_call 85; (with_reducible refine (hcd _ (‹_ ∧ _ ∧ _ ∧ Below (w.heap.size + 1) _ _›).2.2.2).mono ?_); rintro e w5 ⟨rfl, b5⟩))
          go_wp2
          go_ret2
          exact ⟨i, true, rfl, fun _ => ⟨hin, by rw [HPD.out]; exact HT1.out HCC.out⟩, fun h => by simp at h, k1.trans (b5.mono (by omega))⟩
        · have d2 : (ct pd == 0) = false := by simpa using hcc
          have HCC : Hid (ct pd ≠ 0) := hcc
          clear hcc
          go_wp2
          go_region_held3 (fun U => U.cell? ⟨b, off + i, none⟩ = some (.int .i64 pd) ∧ U.cell? ⟨w.heap.size, 0, none⟩ = some (.slice so sn sc) ∧ U.cell? ⟨w.heap.size, 1, none⟩ = some (.slice ao an ac) ∧ Below (w.heap.size + 1) W U) (first | exact al _ (by assumption) | exact al _ (Below.drew (by assumption)))
            (first
              | (go_at_call 85; (with_reducible refine (hcd _ (‹_ ∧ _ ∧ _ ∧ Below (w.heap.size + 1) _ _›).2.2.2).mono ?_); rintro e w5 ⟨rfl, b5⟩))
          go_wp2
          go_ret2
          exact ⟨i, false, rfl, fun h => by simp at h, fun _ => HT2.out HCC.out, k1.trans (b5.mono (by omega))⟩
      · obtain rfl : i = n := by omega
        have t2 : decide ((i : Int) < (i : Int)) = false := by simp
        have HT2 : Hid (r = i) := T2 (fun h => by omega)
        clear T1 T2
        go_wp2
        go_region
        go_wp2
        go_ret2
        exact ⟨i, false, rfl, fun h => by simp at h, fun _ => HT2.out, k1.trans (B.drew.mono (by omega))⟩
end Go.Proofs.YtmepcenbaohcoaaGreat
