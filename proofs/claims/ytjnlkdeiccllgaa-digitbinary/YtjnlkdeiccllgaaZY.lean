
/- DigitBinary: the numbers. -/

import Derived.Test.YtjnlkdeiccllgaaZX
import Derived.Test.YtjnlkdeiccllgaaZU


namespace Go.Proofs.Ytjnlkdeiccllgaa

open Go.RowKit

set_option linter.unusedVariables false

theorem blA_lt : ∀ (f x : Nat), x < 2 ^ f → x < 2 ^ Lib.bitLenAux f x
  | 0, x, h => by simp at h; subst h; simp [Lib.bitLenAux]
  | f + 1, x, h => by
    simp only [Lib.bitLenAux]
    split
    · rename_i e; subst e; simp
    · have := blA_lt f (x / 2) (by rw [Nat.pow_succ] at h; omega)
      rw [Nat.add_comm, Nat.pow_succ]
      omega
theorem blA_ge : ∀ (f x : Nat), x < 2 ^ f → x ≠ 0 → 1 ≤ Lib.bitLenAux f x ∧ 2 ^ (Lib.bitLenAux f x - 1) ≤ x
  | 0, x, h, h0 => by simp at h; omega
  | f + 1, x, h, h0 => by
    simp only [Lib.bitLenAux]
    rw [if_neg h0]
    refine ⟨by omega, ?_⟩
    rw [Nat.add_sub_cancel_left]
    by_cases e : x / 2 = 0
    · rw [e]
      have : Lib.bitLenAux f 0 = 0 := by cases f <;> simp [Lib.bitLenAux]
      rw [this]; simp; omega
    · obtain ⟨a, b⟩ := blA_ge f (x / 2) (by rw [Nat.pow_succ] at h; omega) e
      obtain ⟨c, hc⟩ : ∃ c, Lib.bitLenAux f (x / 2) = c + 1 := ⟨Lib.bitLenAux f (x / 2) - 1, by omega⟩
      rw [hc] at b ⊢
      rw [Nat.add_sub_cancel] at b
      rw [Nat.pow_succ]
      omega
theorem bl_lt {x : Nat} (h : x < 18446744073709551616) : x < 2 ^ Lib.bitLen x := blA_lt 64 x h
theorem bl_ge {x : Nat} (h : x < 18446744073709551616) (h0 : x ≠ 0) : 1 ≤ Lib.bitLen x ∧ 2 ^ (Lib.bitLen x - 1) ≤ x := blA_ge 64 x h h0
theorem bdg_lt {n : Int} (h0 : 0 ≤ n) (h2 : n ≤ 9223372036854775807) {W : Nat} (hW : bdg n ≤ W) : n < 2 ^ W := by
  have a := bl_lt (x := n.natAbs) (by omega)
  have b : Lib.bitLen n.natAbs ≤ W := by unfold bdg at hW; omega
  have c : 2 ^ Lib.bitLen n.natAbs ≤ 2 ^ W := Nat.pow_le_pow_right (by omega) b
  have d : ((2 ^ W : Nat) : Int) = (2 : Int) ^ W := by simp
  rw [← d]
  omega
theorem top_bit {n : Int} (h0 : 0 ≤ n) (h2 : n ≤ 9223372036854775807) {W : Nat} (hW : bdg n = W) (h1 : W ≠ 1) : bitZ n (W - 1) = 1 := by
  have hb : Lib.bitLen n.natAbs = W := by unfold bdg at hW; omega
  have hne : n.natAbs ≠ 0 := by
    intro e
    rw [e] at hb
    have : Lib.bitLen 0 = 0 := rfl
    unfold bdg at hW; rw [e] at hW; omega
  obtain ⟨a, b⟩ := bl_ge (x := n.natAbs) (by omega) hne
  have c := bl_lt (x := n.natAbs) (by omega)
  rw [hb] at a b c
  obtain ⟨m, rfl⟩ : ∃ m, W = m + 1 := ⟨W - 1, by omega⟩
  rw [Nat.add_sub_cancel] at b ⊢
  rw [Nat.pow_succ] at c
  unfold bitZ
  have d : ((2 ^ m : Nat) : Int) = (2 : Int) ^ m := by simp
  rw [← d]
  generalize 2 ^ m = P at *
  have e : n / (P : Int) = 1 := by
    rw [Int.ediv_eq_iff_of_pos (by omega)]
    omega
  rw [e]; rfl
theorem wdt_mono {ay : List Int} : ∀ k, k ≤ ay.length → ∀ i, i < k → bdg (nth ay i) ≤ wdt ay k
  | 0, _, i, hi => by omega
  | k + 1, hk, i, hi => by
    rw [wdt_succ (by omega)]
    by_cases e : i = k
    · rw [e]; omega
    · have := wdt_mono (ay := ay) k (by omega) i (by omega); omega
theorem wdt_max {ay : List Int} : ∀ k, k ≤ ay.length → 0 < k → ∃ i, i < k ∧ bdg (nth ay i) = wdt ay k
  | 0, _, h => by omega
  | k + 1, hk, _ => by
    rw [wdt_succ (by omega)]
    by_cases e : wdt ay k ≤ bdg (nth ay k)
    · exact ⟨k, by omega, by omega⟩
    · by_cases k0 : k = 0
      · subst k0
        have : wdt ay 0 = 0 := rfl
        omega
      · obtain ⟨i, i1, i2⟩ := wdt_max (ay := ay) k (by omega) (by omega)
        exact ⟨i, by omega, by omega⟩
theorem binA_row (ay : List Int) (W : Nat) : ∀ i, i < ay.length → ((binA ay W).drop (i * W)).take W = rowB (nth ay i) W := by
  induction ay with
  | nil => intro i h; simp at h
  | cons n ay ih =>
    intro i h
    have e : binA (n :: ay) W = rowB n W ++ binA ay W := by simp [binA]
    rw [e]
    cases i with
    | zero =>
      rw [Nat.zero_mul, List.drop_zero, List.take_append_of_le_length (by rw [rowB_len]; exact Nat.le_refl _), List.take_of_length_le (by rw [rowB_len]; exact Nat.le_refl _)]
      rfl
    | succ i =>
      have l := rowB_len n W
      rw [Nat.succ_mul, Nat.add_comm, ← List.drop_drop, List.drop_left' l, ih i (by simpa using h)]
      congr 1
theorem rowB_nth {n : Int} {W k : Nat} (h : k < W) : nth (rowB n W) k = bitZ n (W - 1 - k) := by unfold rowB nth; simp [h]
theorem row_back {n : Int} (h0 : 0 ≤ n) (h2 : n ≤ 9223372036854775807) {W : Nat} (hW : n < 2 ^ W) : ∀ k, k ≤ W → fbR (List.replicate W 2) (rowB n W) k = some (n / 2 ^ (W - k))
  | 0, _ => by
    rw [fbR, Nat.sub_zero, Int.ediv_eq_zero_of_lt h0 hW]
  | k + 1, hk => by
    have ih := row_back h0 h2 hW k (by omega)
    have e2 : nth (List.replicate W (2 : Int)) k = 2 := by unfold nth; simp [show k < W by omega]
    rw [fbR_succ ih, e2, rowB_nth (by omega)]
    obtain ⟨m, hm⟩ : ∃ m, W - k = m + 1 := ⟨W - k - 1, by omega⟩
    rw [hm, show W - (k + 1) = m by omega, show W - 1 - k = m by omega]
    unfold bitZ
    have hp : (0 : Int) < 2 ^ m := Int.pow_pos (by omega)
    have hd : n / 2 ^ (m + 1) = n / 2 ^ m / 2 := by rw [Int.pow_succ, Int.ediv_ediv_of_nonneg (by omega)]
    have hq0 : 0 ≤ n / 2 ^ m := Int.ediv_nonneg h0 (by omega)
    have hqn : n / 2 ^ m ≤ n := Int.ediv_le_self _ h0
    rw [hd]
    generalize n / 2 ^ m = q at *
    rw [if_pos ⟨Nm.inr_iff.2 (by omega), Nm.inr_iff.2 (by omega)⟩]
    congr 1
    omega
theorem row_all {n : Int} (h0 : 0 ≤ n) (h2 : n ≤ 9223372036854775807) {W : Nat} (hW : n < 2 ^ W) : fbR (takL [] [2] (rowB n W).length) (takL [(W : Int)] (rowB n W) 1) (fbN [] [(W : Int)] [2] (rowB n W)) = some n := by
  have e1 : takL [] [2] (rowB n W).length = List.replicate W 2 := by unfold takL; rw [if_pos (by simp), rowB_len, repL_one]
  have e2 : takL [(W : Int)] (rowB n W) 1 = rowB n W := by unfold takL; rw [if_neg (by simp)]
  have e3 : fbN [] [(W : Int)] [2] (rowB n W) = W := by unfold fbN; rw [e1]; simp
  rw [e1, e2, e3, row_back h0 h2 hW W (Nat.le_refl _), Nat.sub_self]
  simp
/-- Is one of the first k marked? -/
def hif (an W : Nat) (ay : List Int) : Nat → Bool
  | 0 => (an == 0) || (W == 1)
  | k + 1 => (hif an W ay k || ((bitZ (nth ay k) (W - 1) == 1) && decide (0 ≤ nth ay k))) || decide (nth ay k < 0)
theorem hif_up {an W : Nat} {ay : List Int} {i : Nat} (h : hif an W ay i = true) : ∀ k, i ≤ k → hif an W ay k = true
  | 0, hk => by obtain rfl : i = 0 := by omega
                exact h
  | k + 1, hk => by
    by_cases e : i = k + 1
    · rw [← e]; exact h
    · rw [hif, hif_up h k (by omega)]; simp
theorem hif_all {ay : List Int} {an : Nat} (hl : ay.length = an) (hn : ∀ k, k < an → -9223372036854775808 ≤ nth ay k ∧ nth ay k ≤ 9223372036854775807) : hif an (wdt ay an) ay an = true := by
  by_cases h0 : an = 0
  · have : hif an (wdt ay an) ay 0 = true := by rw [hif, h0]; rfl
    exact hif_up this an (Nat.zero_le _)
  · by_cases h1 : wdt ay an = 1
    · have : hif an (wdt ay an) ay 0 = true := by rw [hif, h1]; simp
      exact hif_up this an (Nat.zero_le _)
    · obtain ⟨i, i1, i2⟩ := wdt_max (ay := ay) an (by omega) (by omega)
      refine hif_up (i := i + 1) ?_ an (by omega)
      rw [hif]
      by_cases hs : nth ay i < 0
      · simp [hs]
      · have := top_bit (n := nth ay i) (by omega) (hn i i1).2 i2 h1
        rw [this]
        simp; omega
theorem pr_snoc' (sy : List Int) (W : Int) : pr (sy ++ [W]) = pr sy * W := pr_snoc sy W
theorem bin_may {sy ay : List Int} {an : Nat} (my : mayA sy ay = 0) (W : Nat) : mayF (sy ++ [(W : Int)]) = 0 ∨ mayF (sy ++ [(W : Int)]) = 17 := by
  refine mayF_pos (fun k hk => ?_)
  obtain ⟨p, _, _⟩ := mayF_zero (mayA_0 my).1
  rw [List.length_append, List.length_singleton] at hk
  by_cases e : k < sy.length
  · have : nth (sy ++ [(W : Int)]) k = nth sy k := by unfold nth; rw [List.getD_eq_getElem?_getD, List.getD_eq_getElem?_getD, List.getElem?_append_left e]
    rw [this]; exact p k e
  · obtain rfl : k = sy.length := by omega
    have : nth (sy ++ [(W : Int)]) sy.length = (W : Int) := by unfold nth; simp
    rw [this]; omega
theorem nth_last (sy : List Int) (W : Int) {n : Nat} (h : sy.length = n) : nth (sy ++ [W]) n = W := by subst h; unfold nth; simp
theorem bin_ok (so ao : Option Addr) (sn sc an ac : Nat) (sy ay : List Int) (w : World) (hy : Rd w so sn sy) (hs : Sl so sn sc) (ga : Rd w ao an ay) (my : mayA sy ay = 0) (hF : mayF (sy ++ [((wdt ay an : Nat) : Int)]) = 0) :
    Calls Try.prog 8 #[.int .i64 40, .agg #[.slice so sn sc, .slice ao an ac]] w fun e w' => AnsQ w (fun S A => S = sy ++ [((wdt ay an : Nat) : Int)] ∧ A = binA ay (wdt ay an)) 0 e w' := by
  have r8 : sn ≤ 8 := by have := (mayF_zero (mayA_0 my).1).2.1; rw [hy.len] at this; exact this
  have a4 : an ≤ 4096 := by rw [← ga.len]; exact atoms_le my
  have hp := pr_le hF
  have e1 := (mayA_0 my).2
  rw [ga.len] at e1
  refine monadZ_40 so ao sn sc an ac sy ay _ 0 w hy ga my r8 (fun V k => toBinary_ok so ao sn sc an ac sy ay V (hy.below k (Nat.le_refl _)) hs (ga.below k (Nat.le_refl _)) (by omega) a4 hF (an * wdt ay an) ?_ ?_ rfl)
  · rw [sizeF_ok hF, pr_snoc', ← e1, Int.natCast_mul]
  · rw [pr_snoc', ← e1, ← Int.natCast_mul] at hp
    omega
theorem bin_bad (so ao : Option Addr) (sn sc an ac : Nat) (sy ay : List Int) (w : World) (hy : Rd w so sn sy) (hs : Sl so sn sc) (ga : Rd w ao an ay) (my : mayA sy ay = 0) (hF : mayF (sy ++ [((wdt ay an : Nat) : Int)]) = 17) :
    Calls Try.prog 8 #[.int .i64 40, .agg #[.slice so sn sc, .slice ao an ac]] w fun e w' => AnsQ w (fun S A => S = [] ∧ A = []) 17 e w' := by
  have r8 : sn ≤ 8 := by have := (mayF_zero (mayA_0 my).1).2.1; rw [hy.len] at this; exact this
  have a4 : an ≤ 4096 := by rw [← ga.len]; exact atoms_le my
  exact monadZ_40 so ao sn sc an ac sy ay _ 17 w hy ga my r8 (fun V k => toBinary_bad so ao sn sc an ac sy ay V (hy.below k (Nat.le_refl _)) hs (ga.below k (Nat.le_refl _)) (by omega) a4 hF)
end Go.Proofs.Ytjnlkdeiccllgaa
