/- The common shape is the least that covers each, of plain lists. -/
import Derived.Test.YtedidfjonkepoaaCover
namespace Go.Proofs.Ytedidfjonkepoaa
set_option linter.unusedVariables false

def mlen (zss : List (List Int)) : Nat → Nat
  | 0 => 0
  | k + 1 => Nat.max (mlen zss k) (row zss k).length
def top (zss : List (List Int)) (N i : Nat) : Nat → Int
  | 0 => 0
  | k + 1 => max (top zss N i k) (ext (row zss k) N i)

def nonneg (zs : List Int) : Prop := ∀ k, k < zs.length → 0 ≤ nth zs k

theorem ext_nonneg {a : List Int} (h : nonneg a) {N i : Nat} (hi : i < N) (hN : a.length ≤ N) : 0 ≤ ext a N i := by
  unfold ext
  split
  · exact h _ (by omega)
  · omega
theorem ext_shift {a : List Int} {M N i : Nat} (h1 : a.length ≤ M) (h2 : M ≤ N) (h3 : N - M ≤ i) : ext a M (i - (N - M)) = ext a N i := by
  unfold ext
  by_cases c : N - a.length ≤ i
  · rw [if_pos c, if_pos (by omega)]; congr 1; omega
  · rw [if_neg c, if_neg (by omega)]
theorem mlen_le {zss : List (List Int)} {j : Nat} : ∀ k, j < k → (row zss j).length ≤ mlen zss k
  | k + 1, h => by
    by_cases e : j = k
    · subst e; exact Nat.le_max_right _ _
    · exact Nat.le_trans (mlen_le k (by omega)) (Nat.le_max_left _ _)
theorem mlen_lub {zss : List (List Int)} {b : Nat} : ∀ k, (∀ j, j < k → (row zss j).length ≤ b) → mlen zss k ≤ b
  | 0, _ => Nat.zero_le _
  | k + 1, h => Nat.max_le.2 ⟨mlen_lub k (fun j hj => h j (by omega)), h k (by omega)⟩
theorem top_nonneg {zss : List (List Int)} {N i : Nat} : ∀ k, 0 ≤ top zss N i k
  | 0 => Int.le_refl _
  | k + 1 => by have := top_nonneg (zss := zss) (N := N) (i := i) k; simp only [top]; omega
theorem top_le {zss : List (List Int)} {N i j : Nat} : ∀ k, j < k → ext (row zss j) N i ≤ top zss N i k
  | k + 1, h => by
    simp only [top]
    by_cases e : j = k
    · subst e; omega
    · have := top_le (zss := zss) (N := N) (i := i) (j := j) k (by omega); omega
theorem top_lub {zss : List (List Int)} {N i : Nat} {b : Int} (hb : 0 ≤ b) : ∀ k, (∀ j, j < k → ext (row zss j) N i ≤ b) → top zss N i k ≤ b
  | 0, _ => hb
  | k + 1, h => by
    simp only [top]
    have h1 := top_lub hb k (fun j hj => h j (by omega))
    have h2 := h k (by omega)
    omega
theorem top_one {zss : List (List Int)} {N i : Nat} : ∀ k, (∀ j, j < k → ext (row zss j) N i = 1) → 0 < k → top zss N i k = 1
  | k + 1, h, _ => by
    have h1 := h k (by omega)
    have h2 := top_lub (zss := zss) (N := N) (i := i) (b := 1) (by omega) k (fun j hj => by rw [h j (by omega)]; exact Int.le_refl _)
    simp only [top]; omega
theorem top_congr {zss : List (List Int)} {M N i i' : Nat} : ∀ k, (∀ j, j < k → ext (row zss j) M i' = ext (row zss j) N i) → top zss M i' k = top zss N i k
  | 0, _ => rfl
  | k + 1, h => by simp only [top]; rw [top_congr k (fun j hj => h j (by omega)), h k (by omega)]

theorem com_nth {a b : List Int} {i : Nat} (h : i < Nat.max a.length b.length) : nth (com a b) i = max (ext a (Nat.max a.length b.length) i) (ext b (Nat.max a.length b.length) i) := by
  unfold com; rw [nth_mk _ _ _ h]
theorem com_self (a : List Int) : com a a = a := by
  have hN : Nat.max a.length a.length = a.length := Nat.max_self _
  refine ext_nth (by rw [com_len, hN]) fun k hk => ?_
  rw [com_len, hN] at hk
  rw [com_nth (by rw [hN]; exact hk), hN, ext_self rfl]; omega

/-- The common shape of the first k: as long as the longest, of each axis the greatest. -/
theorem cst_is {zss : List (List Int)} : ∀ k, (∀ j, j < k + 1 → nonneg (row zss j)) → (cst zss (k + 1)).length = mlen zss (k + 1) ∧ ∀ i, i < mlen zss (k + 1) → nth (cst zss (k + 1)) i = top zss (mlen zss (k + 1)) i (k + 1)
  | 0, h => by
    have e : cst zss 1 = row zss 0 := com_self _
    have em : mlen zss 1 = (row zss 0).length := Nat.max_eq_right (Nat.zero_le _)
    rw [e, em]
    refine ⟨rfl, fun i hi => ?_⟩
    have := h 0 (by omega) i hi
    simp only [top, ext_self]; omega
  | k + 1, h => by
    obtain ⟨h1, h2⟩ := cst_is k (fun j hj => h j (by omega))
    have e : cst zss (k + 1 + 1) = com (cst zss (k + 1)) (row zss (k + 1)) := rfl
    have hl : Nat.max (cst zss (k + 1)).length (row zss (k + 1)).length = mlen zss (k + 1 + 1) := by rw [h1]; rfl
    rw [e]
    refine ⟨by rw [com_len, hl], fun i hi => ?_⟩
    rw [com_nth (by rw [hl]; exact hi), hl]
    have hM : mlen zss (k + 1) ≤ mlen zss (k + 1 + 1) := Nat.le_max_left _ _
    have hx : ext (cst zss (k + 1)) (mlen zss (k + 1 + 1)) i = top zss (mlen zss (k + 1 + 1)) i (k + 1) := by
      by_cases c : mlen zss (k + 1 + 1) - mlen zss (k + 1) ≤ i
      · have e1 : ext (cst zss (k + 1)) (mlen zss (k + 1 + 1)) i = nth (cst zss (k + 1)) (i - (mlen zss (k + 1 + 1) - mlen zss (k + 1))) := by
          unfold ext; rw [h1, if_pos c]
        rw [e1, h2 _ (by omega)]
        exact top_congr _ (fun j hj => ext_shift (mlen_le _ hj) hM c)
      · have e1 : ext (cst zss (k + 1)) (mlen zss (k + 1 + 1)) i = 1 := by unfold ext; rw [h1, if_neg c]
        rw [e1]
        refine (top_one (k + 1) (fun j hj => ?_) (by omega)).symm
        have := mlen_le (zss := zss) (j := j) (k + 1) hj
        unfold ext; rw [if_neg (by omega)]
    rw [hx]; rfl

theorem pz_ones (d : Nat) (a : List Int) : pz (List.replicate d 1 ++ a) = pz a := by
  have h : ∀ d, pz (List.replicate d 1) = 1 := by
    intro d
    induction d with
    | zero => rfl
    | succ d ih => rw [List.replicate_succ', pz_snoc, ih]; rfl
  show (List.replicate d 1 ++ a).foldl (fun p z => if z = 0 then p else p * z) 1 = _
  rw [List.foldl_append]
  show a.foldl (fun p z => if z = 0 then p else p * z) (pz (List.replicate d 1)) = _
  rw [h]; rfl
theorem ext_ones {a : List Int} {N i : Nat} (hN : a.length ≤ N) (hi : i < N) : nth (List.replicate (N - a.length) 1 ++ a) i = ext a N i := by
  unfold ext nth
  by_cases c : N - a.length ≤ i
  · rw [if_pos c, List.getD_eq_getElem?_getD, List.getElem?_append_right (by simpa using c)]; simp
  · rw [if_neg c, List.getD_eq_getElem?_getD, List.getElem?_append_left (by simp; omega), List.getElem?_replicate, if_pos (by omega)]; rfl
theorem pz_mono {a b : List Int} (hl : a.length = b.length) (h : ∀ i, i < a.length → 0 ≤ nth a i ∧ nth a i ≤ nth b i) : ∀ m, m ≤ a.length → 1 ≤ pz (a.take m) ∧ pz (a.take m) ≤ pz (b.take m)
  | 0, _ => by simp [pz]
  | m + 1, hm => by
    have ih := pz_mono hl h m (by omega)
    obtain ⟨h1, h2⟩ := h m (by omega)
    rw [take_nth (by omega), take_nth (show m < b.length by omega), pz_snoc, pz_snoc]
    by_cases c : nth a m = 0
    · rw [if_pos c]
      refine ⟨ih.1, ?_⟩
      split
      · exact ih.2
      · have : pz (b.take m) * 1 ≤ pz (b.take m) * nth b m := Int.mul_le_mul_of_nonneg_left (by omega) (by omega)
        omega
    · rw [if_neg c, if_neg (by omega)]
      have e1 : 1 * 1 ≤ pz (a.take m) * nth a m := Int.mul_le_mul ih.1 (by omega) (by omega) (by omega)
      exact ⟨by omega, Int.mul_le_mul ih.2 h2 h1 (by omega)⟩

/-- What lies below a shape that may be may be. -/
theorem may_below {a c : List Int} (hc : mayF c = 0) (ha : nonneg a) (hl : a.length ≤ c.length) (h : ∀ i, i < c.length → ext a c.length i ≤ nth c i) : mayF a = 0 := by
  obtain ⟨h1, h2, h3⟩ := mayF_zero hc
  refine mayF_ok ha (by omega) ?_
  have e : (List.replicate (c.length - a.length) 1 ++ a).length = c.length := by simp; omega
  have := (pz_mono (a := List.replicate (c.length - a.length) 1 ++ a) (b := c) e (fun i hi => by
    rw [e] at hi
    rw [ext_ones hl hi]
    exact ⟨ext_nonneg ha hi hl, h i hi⟩) c.length (by omega)).2
  rw [take_all' e, List.take_length, pz_ones] at this
  omega
where
  take_all' {l : List Int} {n : Nat} (h : l.length = n) : l.take n = l := by rw [← h, List.take_length]

theorem com_covers {c a : List Int} (hl : a.length ≤ c.length) (h : ∀ i, i < c.length → ext a c.length i ≤ nth c i) : com c a = c := by
  have hN : Nat.max c.length a.length = c.length := Nat.max_eq_left hl
  refine ext_nth (by rw [com_len, hN]) fun k hk => ?_
  rw [com_len, hN] at hk
  rw [com_nth (by rw [hN]; exact hk), hN, ext_self rfl]
  have := h k hk
  omega

theorem cE_all {zss : List (List Int)} : ∀ n, cE zss n = 0 ↔ ∀ k, k < n → mayF (row zss k) = 0 ∧ mayF (cst zss (k + 1)) = 0
  | 0 => ⟨fun _ k hk => by omega, fun _ => rfl⟩
  | n + 1 => by
    constructor
    · intro h k hk
      by_cases c : cE zss n = 0
      · by_cases r : mayF (row zss n) = 0
        · by_cases e : k = n
          · subst e; exact ⟨r, by rw [← cE_com c r]; exact h⟩
          · exact (cE_all n).1 c k (by omega)
        · rw [cE_row c r] at h; exact absurd h r
      · have := cE_stay c 1; rw [this] at h; exact absurd h c
    · intro h
      have c := (cE_all n).2 (fun k hk => h k (by omega))
      rw [cE_com c (h n (by omega)).1]; exact (h n (by omega)).2
theorem cov_zero {zss : List (List Int)} {n : Nat} (hl : zss.length = n) : covE zss = 0 ↔ 0 < n ∧ ∀ k, k < n → mayF (row zss k) = 0 ∧ mayF (cst zss (k + 1)) = 0 := by
  unfold covE
  rw [hl]
  by_cases h0 : n = 0
  · rw [if_pos h0]; constructor <;> intro h <;> omega
  · rw [if_neg h0, cE_all]; exact ⟨fun h => ⟨by omega, h⟩, fun h => h.2⟩

/-- The order bears on nothing, and what is covered already changes nothing. -/
theorem covers {zss : List (List Int)} {n : Nat} (hl : zss.length = n) (h : covE zss = 0) :
    mayF (covL zss) = 0 ∧ (covL zss).length = mlen zss n ∧ (∀ i, i < mlen zss n → nth (covL zss) i = top zss (mlen zss n) i n) ∧ covE zss.reverse = 0 ∧ covL zss.reverse = covL zss ∧
    covE [covL zss, row zss 0, covL zss] = 0 ∧ covL [covL zss, row zss 0, covL zss] = covL zss := by
  obtain ⟨h0, hk⟩ := (cov_zero hl).1 h
  have hL : covL zss = cst zss n := by unfold covL; rw [if_pos h, hl]
  obtain ⟨m, rfl⟩ : ∃ m, n = m + 1 := ⟨n - 1, by omega⟩
  have hnn : ∀ j, j < m + 1 → nonneg (row zss j) := fun j hj => (mayF_zero (hk j hj).1).1
  obtain ⟨i1, i2⟩ := cst_is m hnn
  have hmay := (hk m (by omega)).2
  rw [hL]
  have hrow : ∀ k, k < m + 1 → row zss.reverse k = row zss (m - k) := fun k hk => by
    unfold row
    rw [List.getD_eq_getElem?_getD, List.getD_eq_getElem?_getD, List.getElem?_reverse (by omega), hl]
    congr 2; 
  have hrl : zss.reverse.length = m + 1 := by rw [List.length_reverse, hl]
  have hml : ∀ k, k ≤ m + 1 → mlen zss.reverse k ≤ mlen zss (m + 1) := fun k hk => mlen_lub k (fun j hj => by rw [hrow j (by omega)]; exact mlen_le _ (by omega))
  have hnr : ∀ j, j < m + 1 → nonneg (row zss.reverse j) := fun j hj => by rw [hrow j hj]; exact hnn _ (by omega)
  have hrev : ∀ k, k < m + 1 → mayF (row zss.reverse k) = 0 ∧ mayF (cst zss.reverse (k + 1)) = 0 := by
    intro k hk1
    refine ⟨by rw [hrow k hk1]; exact (hk _ (by omega)).1, ?_⟩
    obtain ⟨j1, j2⟩ := cst_is (zss := zss.reverse) k (fun j hj => hnr j (by omega))
    have hle := hml (k + 1) (by omega)
    refine may_below hmay (fun i hi => ?_) (by rw [j1, i1]; exact hle) (fun i hi => ?_)
    · rw [j1] at hi; rw [j2 i hi]; exact top_nonneg _
    · rw [i1] at hi ⊢
      rw [i2 i hi]
      unfold ext
      rw [j1]
      by_cases c : mlen zss (m + 1) - mlen zss.reverse (k + 1) ≤ i
      · rw [if_pos c, j2 _ (by omega)]
        rw [top_congr (N := mlen zss (m + 1)) (i := i) _ (fun j hj => ext_shift (mlen_le _ hj) hle c)]
        exact top_lub (top_nonneg _) _ (fun j hj => by rw [hrow j (by omega)]; exact top_le _ (by omega))
      · rw [if_neg c]
        have h1 := top_le (zss := zss) (N := mlen zss (m + 1)) (i := i) (j := m) (m + 1) (by omega)
        have h2 : ext (row zss m) (mlen zss (m + 1)) i = 1 := by
          have : (row zss m).length ≤ mlen zss.reverse (k + 1) := by
            have := mlen_le (zss := zss.reverse) (j := 0) (k + 1) (by omega)
            rwa [hrow 0 (by omega), Nat.sub_zero] at this
          unfold ext; rw [if_neg (by omega)]
        omega
  have hrE : covE zss.reverse = 0 := (cov_zero hrl).2 ⟨by omega, hrev⟩
  have hrL : covL zss.reverse = cst zss (m + 1) := by
    unfold covL
    rw [if_pos hrE, hrl]
    obtain ⟨j1, j2⟩ := cst_is (zss := zss.reverse) m (fun j hj => hnr j (by omega))
    have hml2 : mlen zss.reverse (m + 1) = mlen zss (m + 1) := Nat.le_antisymm (hml _ (Nat.le_refl _)) (mlen_lub _ (fun j hj => by
      have := mlen_le (zss := zss.reverse) (j := m - j) (m + 1) (by omega)
      rwa [hrow _ (by omega), show m - (m - j) = j by omega] at this))
    refine ext_nth (by rw [j1, i1, hml2]) fun i hi => ?_
    rw [j1] at hi
    rw [j2 i hi, i2 i (by omega), hml2]
    refine Int.le_antisymm (top_lub (top_nonneg _) _ (fun j hj => by rw [hrow j hj]; exact top_le _ (by omega))) (top_lub (top_nonneg _) _ (fun j hj => ?_))
    have := top_le (zss := zss.reverse) (N := mlen zss (m + 1)) (i := i) (j := m - j) (m + 1) (by omega)
    rwa [hrow _ (by omega), show m - (m - j) = j by omega] at this
  have hc0 : com (cst zss (m + 1)) (row zss 0) = cst zss (m + 1) := com_covers (by rw [i1]; exact mlen_le _ (by omega)) (fun i hi => by
    rw [i1] at hi ⊢
    rw [i2 i hi]; exact top_le _ (by omega))
  obtain ⟨c, hc⟩ : ∃ c, cst zss (m + 1) = c := ⟨_, rfl⟩
  rw [hc] at hmay hc0 i1 i2 hrL ⊢
  have s1 : cst [c, row zss 0, c] 1 = c := com_self c
  have s2 : cst [c, row zss 0, c] 2 = c := by show com (cst [c, row zss 0, c] 1) (row zss 0) = c; rw [s1]; exact hc0
  have s3 : cst [c, row zss 0, c] 3 = c := by show com (cst [c, row zss 0, c] 2) c = c; rw [s2]; exact com_self c
  have hE : covE [c, row zss 0, c] = 0 := (cov_zero (n := 3) rfl).2 ⟨by omega, fun k hk1 => by
    match k, hk1 with
    | 0, _ => exact ⟨hmay, by rw [s1]; exact hmay⟩
    | 1, _ => exact ⟨(hk 0 (by omega)).1, by rw [s2]; exact hmay⟩
    | 2, _ => exact ⟨hmay, by rw [s3]; exact hmay⟩⟩
  exact ⟨hmay, i1, i2, hrE, hrL, hE, by unfold covL; rw [if_pos hE]; exact s3⟩
end Go.Proofs.Ytedidfjonkepoaa
