
/- MoldCuts: what is taken and dropped by one number, in numbers. -/

import Derived.Test.YtpfdiammgdnhmaaGreatMH2
import Derived.Test.YtpfdiammgdnhmaaGreatRA


namespace Go.Proofs.YtpfdiammgdnhmaaGreat

open Go.RowKit

set_option linter.unusedVariables false

theorem rows_cut {at' : List Int} {Z R k d : Nat} (hl : at'.length = Z * R) (h : d + k ≤ Z) : rows k R (fun i j => nth at' ((i + d) * R + j)) = (at'.drop (d * R)).take (k * R) := by
  have hd : d * R + k * R ≤ Z * R := by rw [← Nat.add_mul]; exact Nat.mul_le_mul_right _ h
  have e := rows_self (n := k) (R := R) (l := (at'.drop (d * R)).take (k * R)) (by rw [List.length_take, List.length_drop, hl]; omega)
  rw [← e]
  refine rows_congr fun i hi j hj => ?_
  have hij : i * R + j < k * R := by
    have := Nat.mul_le_mul_right R (show i + 1 ≤ k by omega)
    rw [Nat.succ_mul] at this; omega
  rw [nth_take hij, nth_drop]
  congr 1
  rw [Nat.add_mul]; omega
/-- The axes of what is taken, of what is left. -/
def tkX (sh : List Int) (n : Int) : List Ax := chL taA (axsOf sh) [n]
def drX (sh : List Int) (n : Int) : List Ax := chL drA (axsOf sh) [n]
theorem tkX_cons (z : Int) (r : List Int) (n : Int) : tkX (z :: r) n = taA ⟨z.toNat, z.toNat, (pr r).toNat, fun i => (i : Int)⟩ n :: axsOf r := by simp [tkX, axsOf, chL]
theorem drX_cons (z : Int) (r : List Int) (n : Int) : drX (z :: r) n = drA ⟨z.toNat, z.toNat, (pr r).toNat, fun i => (i : Int)⟩ n :: axsOf r := by simp [drX, axsOf, chL]
theorem lens_tkX {z : Int} {r : List Int} (h : mayF (z :: r) = 0) (n : Int) : lens (tkX (z :: r) n) = (szN n : Int) :: r := by
  have hz := (mayF_zero h).1
  rw [tkX_cons]
  show ((szN n : Nat) : Int) :: lens (axsOf r) = _
  rw [lens_axsOf (fun k hk => hz (k + 1) (by simpa using hk))]
theorem lens_drX {z : Int} {r : List Int} (h : mayF (z :: r) = 0) (n : Int) : lens (drX (z :: r) n) = ((z.toNat - min (szN n) z.toNat : Nat) : Int) :: r := by
  have hz := (mayF_zero h).1
  rw [drX_cons]
  show ((z.toNat - min (szN n) z.toNat : Nat) : Int) :: lens (axsOf r) = _
  rw [lens_axsOf (fun k hk => hz (k + 1) (by simpa using hk))]
/-- Within the array: a part of its atoms. -/
theorem gth_tkX {z : Int} {r at' : List Int} (h : mayF (z :: r) = 0) (hl : (at'.length : Int) = pr (z :: r)) {n : Int} (hn : szN n ≤ z.toNat) :
    gth at' (tkX (z :: r) n) = if n < 0 then at'.drop ((z.toNat - szN n) * (pr r).toNat) else at'.take (szN n * (pr r).toNat) := by
  have hz := (mayF_zero h).1
  have h0 : 0 ≤ z := hz 0 (by simp)
  have hr : ∀ k, k < r.length → 0 ≤ nth r k := fun k hk => hz (k + 1) (by simpa using hk)
  have hp := pr_nonneg hr
  have e : at'.length = z.toNat * (pr r).toNat := by
    rw [pr_cons] at hl
    have : ((z.toNat * (pr r).toNat : Nat) : Int) = z * pr r := by rw [Int.natCast_mul, Int.toNat_of_nonneg h0, Int.toNat_of_nonneg hp]
    omega
  rw [tkX_cons, gth_first at' _ hr rfl]
  show rows (szN n) (pr r).toNat _ = _
  by_cases c : n < 0
  · rw [if_pos c]
    have := rows_cut (k := szN n) (d := z.toNat - szN n) e (by omega)
    rw [List.take_of_length_le (by rw [List.length_drop, e, ← Nat.sub_mul]; exact Nat.mul_le_mul_right _ (by omega))] at this
    rw [← this]
    refine rows_congr fun i hi j hj => ?_
    have ef : (taA ⟨z.toNat, z.toNat, (pr r).toNat, fun i => (i : Int)⟩ n).f i = ((i + (z.toNat - szN n) : Nat) : Int) := by
      unfold taA; dsimp only; rw [if_pos c]; omega
    rw [ef, if_neg (by show ¬ (_ ∨ ((z.toNat : Nat) : Int) ≤ _); omega), Int.toNat_natCast]
  · rw [if_neg c]
    have := rows_cut (k := szN n) (d := 0) e (by omega)
    rw [Nat.zero_mul, List.drop_zero] at this
    rw [← this]
    refine rows_congr fun i hi j hj => ?_
    have ef : (taA ⟨z.toNat, z.toNat, (pr r).toNat, fun i => (i : Int)⟩ n).f i = (i : Int) := by
      unfold taA; dsimp only; rw [if_neg c]
    rw [ef, if_neg (by show ¬ (_ ∨ ((z.toNat : Nat) : Int) ≤ _); omega)]
    simp
theorem gth_drX {z : Int} {r at' : List Int} (h : mayF (z :: r) = 0) (hl : (at'.length : Int) = pr (z :: r)) {n : Int} (hn : szN n ≤ z.toNat) :
    gth at' (drX (z :: r) n) = if 0 < n then at'.drop (szN n * (pr r).toNat) else at'.take ((z.toNat - szN n) * (pr r).toNat) := by
  have hz := (mayF_zero h).1
  have h0 : 0 ≤ z := hz 0 (by simp)
  have hr : ∀ k, k < r.length → 0 ≤ nth r k := fun k hk => hz (k + 1) (by simpa using hk)
  have hp := pr_nonneg hr
  have e : at'.length = z.toNat * (pr r).toNat := by
    rw [pr_cons] at hl
    have : ((z.toNat * (pr r).toNat : Nat) : Int) = z * pr r := by rw [Int.natCast_mul, Int.toNat_of_nonneg h0, Int.toNat_of_nonneg hp]
    omega
  have em : min (szN n) z.toNat = szN n := by omega
  rw [drX_cons, gth_first at' _ hr rfl]
  show rows (z.toNat - min (szN n) z.toNat) (pr r).toNat _ = _
  rw [em]
  by_cases c : 0 < n
  · rw [if_pos c]
    have := rows_cut (k := z.toNat - szN n) (d := szN n) e (by omega)
    rw [List.take_of_length_le (by rw [List.length_drop, e, ← Nat.sub_mul]; exact Nat.le_refl _)] at this
    rw [← this]
    refine rows_congr fun i hi j hj => ?_
    have ef : (drA ⟨z.toNat, z.toNat, (pr r).toNat, fun i => (i : Int)⟩ n).f i = ((i + szN n : Nat) : Int) := by
      unfold drA; dsimp only; rw [if_pos c, em]; omega
    rw [ef, if_neg (by show ¬ (_ ∨ ((z.toNat : Nat) : Int) ≤ _); omega), Int.toNat_natCast]
  · rw [if_neg c]
    have := rows_cut (k := z.toNat - szN n) (d := 0) e (by omega)
    rw [Nat.zero_mul, List.drop_zero] at this
    rw [← this]
    refine rows_congr fun i hi j hj => ?_
    have ef : (drA ⟨z.toNat, z.toNat, (pr r).toNat, fun i => (i : Int)⟩ n).f i = (i : Int) := by
      unfold drA; dsimp only; rw [if_neg c]
    rw [ef, if_neg (by show ¬ (_ ∨ ((z.toNat : Nat) : Int) ≤ _); omega)]
    simp
/-- Both parts, one behind the other. -/
theorem cuts_join {z : Int} {r at' : List Int} (h : mayF (z :: r) = 0) (hl : (at'.length : Int) = pr (z :: r)) {n : Int} (hn : szN n ≤ z.toNat) :
    (if n < 0 then gth at' (drX (z :: r) n) ++ gth at' (tkX (z :: r) n) else gth at' (tkX (z :: r) n) ++ gth at' (drX (z :: r) n)) = at' := by
  rw [gth_tkX h hl hn, gth_drX h hl hn]
  by_cases c : n < 0
  · rw [if_pos c, if_pos c, if_neg (by omega)]; exact List.take_append_drop _ _
  · rw [if_neg c, if_neg c]
    by_cases d : 0 < n
    · rw [if_pos d]; exact List.take_append_drop _ _
    · have e0 : szN n = 0 := by unfold szN; omega
      have e1 : at'.length = z.toNat * (pr r).toNat := by
        have hz := (mayF_zero h).1
        have h0 : 0 ≤ z := hz 0 (by simp)
        have hp := pr_nonneg (s := r) (fun k hk => hz (k + 1) (by simpa using hk))
        rw [pr_cons] at hl
        have : ((z.toNat * (pr r).toNat : Nat) : Int) = z * pr r := by rw [Int.natCast_mul, Int.toNat_of_nonneg h0, Int.toNat_of_nonneg hp]
        omega
      rw [if_neg d, e0, Nat.zero_mul, List.take_zero, List.nil_append, Nat.sub_zero, ← e1, List.take_length]
end Go.Proofs.YtpfdiammgdnhmaaGreat
