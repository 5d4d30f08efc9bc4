
/- MoldBack: an array whose axes are turned round twice, in numbers. -/

import Derived.Test.YtldhochafkcpiaaGreatMJ
import Derived.Test.YtldhochafkcpiaaGreatMZ
import Derived.Test.YtldhochafkcpiaaGreatRB



namespace Go.Proofs.YtldhochafkcpiaaGreat

open Go.RowKit

set_option linter.unusedVariables false

def prN (r : List Nat) : Nat := r.foldr (· * ·) 1
def stN (ps : List Nat) (d : Nat × Nat) : List Nat := ps.flatMap fun p => (List.range d.1).map fun i => p + i * d.2
def posF (ps : List Nat) (ds : List (Nat × Nat)) : List Nat := ds.foldl stN ps
def dOf : List Nat → List (Nat × Nat)
  | [] => []
  | z :: r => (z, prN r) :: dOf r
theorem stN_app (ps qs : List Nat) (d : Nat × Nat) : stN (ps ++ qs) d = stN ps d ++ stN qs d := by unfold stN; rw [List.flatMap_append]
theorem posF_app (ds : List (Nat × Nat)) : ∀ ps qs : List Nat, posF (ps ++ qs) ds = posF ps ds ++ posF qs ds := by
  induction ds with
  | nil => intro ps qs; rfl
  | cons d ds ih =>
    intro ps qs
    show posF (stN (ps ++ qs) d) ds = _
    rw [stN_app, ih]; rfl
theorem stN_shift (c : Nat) (ps : List Nat) (d : Nat × Nat) : stN (ps.map (c + ·)) d = (stN ps d).map (c + ·) := by
  unfold stN
  rw [List.flatMap_map, List.map_flatMap]
  refine fm_congr fun p hp => ?_
  rw [List.map_map]
  apply List.map_congr_left
  intro i hi
  simp only [Function.comp]
  omega
theorem posF_shift (c : Nat) (ds : List (Nat × Nat)) : ∀ ps : List Nat, posF (ps.map (c + ·)) ds = (posF ps ds).map (c + ·) := by
  induction ds with
  | nil => intro ps; rfl
  | cons d ds ih =>
    intro ps
    show posF (stN (ps.map (c + ·)) d) ds = _
    rw [stN_shift, ih]; rfl
theorem posF_nil (ds : List (Nat × Nat)) : posF [] ds = [] := by
  induction ds with
  | nil => rfl
  | cons d ds ih => exact ih
theorem posF_first (ds : List (Nat × Nat)) (l s : Nat) : posF (stN [0] (l, s)) ds = (List.range l).flatMap fun i => (posF [0] ds).map (i * s + ·) := by
  have e : stN [0] (l, s) = (List.range l).map fun i => i * s := by
    unfold stN
    simp
  rw [e]
  induction l with
  | zero => simp [posF_nil]
  | succ l ih =>
    rw [List.range_succ, List.map_append, posF_app, ih (by unfold stN; simp), List.flatMap_append]
    congr 1
    simp only [List.map_cons, List.map_nil, List.flatMap_cons, List.flatMap_nil, List.append_nil]
    have := posF_shift (l * s) ds [0]
    simpa using this
theorem prN_pr : ∀ {sh : List Int}, (∀ k, k < sh.length → 0 ≤ nth sh k) → pr sh = (prN (sh.map Int.toNat) : Nat)
  | [], _ => rfl
  | z :: r, h => by
    have h0 : 0 ≤ z := h 0 (by simp)
    have ih := prN_pr (sh := r) (fun k hk => h (k + 1) (by simpa using hk))
    rw [pr_cons, ih]
    show _ = ((z.toNat * prN (r.map Int.toNat) : Nat) : Int)
    rw [Int.natCast_mul, Int.toNat_of_nonneg h0]
def axN (d : Nat × Nat) : Ax := ⟨d.1, d.1, d.2, fun i => (i : Int)⟩
theorem axsOf_dOf : ∀ {sh : List Int}, (∀ k, k < sh.length → 0 ≤ nth sh k) → axsOf sh = (dOf (sh.map Int.toNat)).map axN
  | [], _ => rfl
  | z :: r, h => by
    have hr : ∀ k, k < r.length → 0 ≤ nth r k := fun k hk => h (k + 1) (by simpa using hk)
    have ih := axsOf_dOf (sh := r) hr
    show _ :: axsOf r = axN (z.toNat, prN (r.map Int.toNat)) :: (dOf (r.map Int.toNat)).map axN
    rw [ih, prN_pr hr, Int.toNat_natCast]; rfl
theorem blw_stN (ps : List Nat) (d : Nat × Nat) : blw (axN d) (ps.map fun (p : Nat) => (p : Int)) = (stN ps d).map fun (p : Nat) => (p : Int) := by
  unfold blw stN
  rw [List.flatMap_map, List.map_flatMap]
  refine fm_congr fun p hp => ?_
  rw [List.map_map]
  apply List.map_congr_left
  intro i hi
  have hi' := List.mem_range.1 hi
  have hi2 : i < d.1 := hi'
  unfold alg axN
  simp only [Function.comp]
  rw [if_neg (by omega)]
  rw [Int.natCast_add, Int.natCast_mul]
theorem plsF_posF (ds : List (Nat × Nat)) : ∀ ps : List Nat, plsF (ps.map fun (p : Nat) => (p : Int)) (ds.map axN) = (posF ps ds).map fun (p : Nat) => (p : Int) := by
  induction ds with
  | nil => intro ps; rfl
  | cons d ds ih =>
    intro ps
    rw [List.map_cons, plsF_cons, blw_stN, ih]; rfl
end Go.Proofs.YtldhochafkcpiaaGreat
