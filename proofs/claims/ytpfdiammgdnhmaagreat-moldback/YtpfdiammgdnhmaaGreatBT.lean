
/- MoldBack: an array whose axes are turned round twice, in numbers. -/

import Derived.Test.YtpfdiammgdnhmaaGreatBA

namespace Go.Proofs.YtpfdiammgdnhmaaGreat

open Go.RowKit

set_option linter.unusedVariables false

def prN (r : List Nat) : Nat := r.foldr (· * ·) 1
def stN (ps : List Nat) (d : Nat × Nat) : List Nat := ps.flatMap fun p => (List.range d.1).map fun i => p + i * d.2
def posF (ps : List Nat) (ds : List (Nat × Nat)) : List Nat := ds.foldl stN ps
def dOf : List Nat → List (Nat × Nat)
  | [] => []
  | z :: r => (z, prN r) :: dOf r
/-- The places of the turned axes. -/
def tpN (r : List Nat) : List Nat := posF [0] (dOf r).reverse
def scN (z : Nat) (d : Nat × Nat) : Nat × Nat := (d.1, d.2 * z)

theorem prN_snoc (s : List Nat) (z : Nat) : prN (s ++ [z]) = prN s * z := by
  induction s with
  | nil => simp [prN]
  | cons a s ih =>
    show a * prN (s ++ [z]) = a * prN s * z
    rw [ih, Nat.mul_assoc]
theorem prN_rev (s : List Nat) : prN s.reverse = prN s := by
  induction s with
  | nil => rfl
  | cons a s ih =>
    rw [List.reverse_cons, prN_snoc, ih]
    show _ = a * prN s
    exact Nat.mul_comm _ _
theorem dOf_snoc (s : List Nat) (z : Nat) : dOf (s ++ [z]) = (dOf s).map (scN z) ++ [(z, 1)] := by
  induction s with
  | nil => rfl
  | cons a s ih =>
    show (a, prN (s ++ [z])) :: dOf (s ++ [z]) = (a, prN s * z) :: ((dOf s).map (scN z) ++ [(z, 1)])
    rw [ih, prN_snoc]
theorem stN_app (ps qs : List Nat) (d : Nat × Nat) : stN (ps ++ qs) d = stN ps d ++ stN qs d := by unfold stN; rw [List.flatMap_append]
theorem posF_app (ds : List (Nat × Nat)) : ∀ ps qs : List Nat, posF (ps ++ qs) ds = posF ps ds ++ posF qs ds := by
  induction ds with
  | nil => intro ps qs; rfl
  | cons d ds ih =>
    intro ps qs
    show posF (stN (ps ++ qs) d) ds = _
    rw [stN_app, ih]; rfl
theorem stN_shift (c : Nat) (ps : List Nat) (d : Nat × Nat) : stN (ps.map (c + ·)) d = (stN ps d).map (c + ·) := by
  unfold stN
  rw [List.flatMap_map, List.map_flatMap]
  refine fm_congr fun p hp => ?_
  rw [List.map_map]
  apply List.map_congr_left
  intro i hi
  simp only [Function.comp]
  omega
theorem posF_shift (c : Nat) (ds : List (Nat × Nat)) : ∀ ps : List Nat, posF (ps.map (c + ·)) ds = (posF ps ds).map (c + ·) := by
  induction ds with
  | nil => intro ps; rfl
  | cons d ds ih =>
    intro ps
    show posF (stN (ps.map (c + ·)) d) ds = _
    rw [stN_shift, ih]; rfl
theorem posF_nil (ds : List (Nat × Nat)) : posF [] ds = [] := by
  induction ds with
  | nil => rfl
  | cons d ds ih => exact ih
theorem posF_first (ds : List (Nat × Nat)) (l s : Nat) : posF (stN [0] (l, s)) ds = (List.range l).flatMap fun i => (posF [0] ds).map (i * s + ·) := by
  have e : stN [0] (l, s) = (List.range l).map fun i => i * s := by
    unfold stN
    simp
  rw [e]
  induction l with
  | zero => simp [posF_nil]
  | succ l ih =>
    rw [List.range_succ, List.map_append, posF_app, ih (by unfold stN; simp), List.flatMap_append]
    congr 1
    simp only [List.map_cons, List.map_nil, List.flatMap_cons, List.flatMap_nil, List.append_nil]
    have := posF_shift (l * s) ds [0]
    simpa using this
theorem stN_scale (z : Nat) (ps : List Nat) (d : Nat × Nat) : stN (ps.map (· * z)) (scN z d) = (stN ps d).map (· * z) := by
  unfold stN scN
  rw [List.flatMap_map, List.map_flatMap]
  refine fm_congr fun p hp => ?_
  rw [List.map_map]
  apply List.map_congr_left
  intro i hi
  simp only [Function.comp]
  rw [Nat.add_mul, Nat.mul_assoc]
theorem posF_scale (z : Nat) (ds : List (Nat × Nat)) : ∀ ps : List Nat, posF (ps.map (· * z)) (ds.map (scN z)) = (posF ps ds).map (· * z) := by
  induction ds with
  | nil => intro ps; rfl
  | cons d ds ih =>
    intro ps
    show posF (stN (ps.map (· * z)) (scN z d)) (ds.map (scN z)) = _
    rw [stN_scale, ih]; rfl
theorem tpN_cons (z : Nat) (r : List Nat) : tpN (z :: r) = (tpN r).flatMap fun p => (List.range z).map fun i => p + i * prN r := by
  unfold tpN
  show posF [0] ((z, prN r) :: dOf r).reverse = _
  rw [List.reverse_cons]
  unfold posF
  rw [List.foldl_append]; rfl
theorem tpN_snoc (s : List Nat) (z : Nat) : tpN (s ++ [z]) = (List.range z).flatMap fun i => (tpN s).map fun q => i + q * z := by
  unfold tpN
  rw [dOf_snoc, List.reverse_append]
  show posF (stN [0] (z, 1)) ((dOf s).map (scN z)).reverse = _
  rw [posF_first, ← List.map_reverse]
  refine fm_congr fun i hi => ?_
  have := posF_scale z (dOf s).reverse [0]
  rw [show [0].map (· * z) = [0] by simp] at this
  rw [this, List.map_map]
  apply List.map_congr_left
  intro q hq
  simp only [Function.comp]
  omega
theorem tpN_bound : ∀ (r : List Nat) (p : Nat), p ∈ tpN r → p < prN r := by
  intro r
  induction r with
  | nil => intro p hp; have : p ∈ [0] := hp; simp at this; subst this; exact Nat.one_pos
  | cons z r ih =>
    intro p hp
    rw [tpN_cons] at hp
    obtain ⟨q, hq, hp⟩ := List.mem_flatMap.1 hp
    obtain ⟨i, hi, rfl⟩ := List.mem_map.1 hp
    have h1 := ih q hq
    have h2 : i + 1 ≤ z := by have := List.mem_range.1 hi; omega
    have h3 := Nat.mul_le_mul_right (prN r) h2
    rw [Nat.succ_mul] at h3
    show q + i * prN r < z * prN r
    omega
theorem fm_len {l : List Nat} {z : Nat} {g : Nat → Nat → Nat} : (l.flatMap fun p => (List.range z).map (g p)).length = l.length * z := by
  induction l with
  | nil => simp
  | cons a l ih => rw [List.flatMap_cons, List.length_append, ih]; simp [Nat.succ_mul, Nat.add_comm]
theorem tpN_len : ∀ r : List Nat, (tpN r).length = prN r := by
  intro r
  induction r with
  | nil => rfl
  | cons z r ih =>
    rw [tpN_cons, fm_len, ih]
    exact Nat.mul_comm _ _
theorem fm_at {z : Nat} {g : Nat → Nat → Nat} : ∀ {l : List Nat} {q i : Nat}, q < l.length → i < z → (l.flatMap fun p => (List.range z).map (g p)).getD (q * z + i) 0 = g (l.getD q 0) i := by
  intro l
  induction l with
  | nil => intro q i h; simp at h
  | cons a l ih =>
    intro q i hq hi
    rw [List.flatMap_cons]
    rw [List.getD_eq_getElem?_getD]
    cases q with
    | zero =>
      rw [Nat.zero_mul, Nat.zero_add, List.getElem?_append_left (by simpa using hi)]
      simp [hi]
    | succ q =>
      rw [List.getElem?_append_right (by simp [Nat.succ_mul]; omega)]
      have := ih (q := q) (i := i) (by simpa using hq) hi
      rw [show (q + 1) * z + i - ((List.range z).map (g a)).length = q * z + i by simp [Nat.succ_mul]; omega, ← List.getD_eq_getElem?_getD, this]
      rfl
/-- Turned round twice, every place is itself. -/
theorem tpN_twice : ∀ r : List Nat, ((tpN r.reverse).map fun q => (tpN r).getD q 0) = List.range (prN r) := by
  intro r
  induction r with
  | nil => rfl
  | cons z r ih =>
    rw [List.reverse_cons, tpN_snoc, List.map_flatMap]
    show _ = List.range (z * prN r)
    rw [← range_mul]
    refine fm_congr fun i hi => ?_
    rw [← ih, List.map_map, List.map_map]
    apply List.map_congr_left
    intro q hq
    have hb := tpN_bound _ q hq
    rw [prN_rev] at hb
    simp only [Function.comp]
    rw [tpN_cons, Nat.add_comm i (q * z), fm_at (by rw [tpN_len]; exact hb) (List.mem_range.1 hi), Nat.add_comm]
theorem prN_pr : ∀ {sh : List Int}, (∀ k, k < sh.length → 0 ≤ nth sh k) → pr sh = (prN (sh.map Int.toNat) : Nat)
  | [], _ => rfl
  | z :: r, h => by
    have h0 : 0 ≤ z := h 0 (by simp)
    have ih := prN_pr (sh := r) (fun k hk => h (k + 1) (by simpa using hk))
    rw [pr_cons, ih]
    show _ = ((z.toNat * prN (r.map Int.toNat) : Nat) : Int)
    rw [Int.natCast_mul, Int.toNat_of_nonneg h0]
def axN (d : Nat × Nat) : Ax := ⟨d.1, d.1, d.2, fun i => (i : Int)⟩
theorem axsOf_dOf : ∀ {sh : List Int}, (∀ k, k < sh.length → 0 ≤ nth sh k) → axsOf sh = (dOf (sh.map Int.toNat)).map axN
  | [], _ => rfl
  | z :: r, h => by
    have hr : ∀ k, k < r.length → 0 ≤ nth r k := fun k hk => h (k + 1) (by simpa using hk)
    have ih := axsOf_dOf (sh := r) hr
    show _ :: axsOf r = axN (z.toNat, prN (r.map Int.toNat)) :: (dOf (r.map Int.toNat)).map axN
    rw [ih, prN_pr hr, Int.toNat_natCast]; rfl
theorem blw_stN (ps : List Nat) (d : Nat × Nat) : blw (axN d) (ps.map fun (p : Nat) => (p : Int)) = (stN ps d).map fun (p : Nat) => (p : Int) := by
  unfold blw stN
  rw [List.flatMap_map, List.map_flatMap]
  refine fm_congr fun p hp => ?_
  rw [List.map_map]
  apply List.map_congr_left
  intro i hi
  have hi' := List.mem_range.1 hi
  have hi2 : i < d.1 := hi'
  unfold alg axN
  simp only [Function.comp]
  rw [if_neg (by omega)]
  rw [Int.natCast_add, Int.natCast_mul]
theorem plsF_posF (ds : List (Nat × Nat)) : ∀ ps : List Nat, plsF (ps.map fun (p : Nat) => (p : Int)) (ds.map axN) = (posF ps ds).map fun (p : Nat) => (p : Int) := by
  induction ds with
  | nil => intro ps; rfl
  | cons d ds ih =>
    intro ps
    rw [List.map_cons, plsF_cons, blw_stN, ih]; rfl
theorem pls_tp {sh : List Int} (h : ∀ k, k < sh.length → 0 ≤ nth sh k) : pls (axsOf sh).reverse = (tpN (sh.map Int.toNat)).map fun (p : Nat) => (p : Int) := by
  unfold pls tpN
  rw [axsOf_dOf h, ← List.map_reverse]
  exact plsF_posF _ [0]
theorem gth_tp {sh at' : List Int} (h : ∀ k, k < sh.length → 0 ≤ nth sh k) : gth at' (axsOf sh).reverse = (tpN (sh.map Int.toNat)).map (nth at') := by
  unfold gth
  rw [pls_tp h, List.map_map]
  apply List.map_congr_left
  intro p hp
  simp only [Function.comp]
  unfold gAt
  rw [if_neg (by omega), Int.toNat_natCast]
theorem nonneg_rev {sh : List Int} (h : ∀ k, k < sh.length → 0 ≤ nth sh k) : ∀ k, k < sh.reverse.length → 0 ≤ nth sh.reverse k := by
  intro k hk
  rw [List.length_reverse] at hk
  have := h (sh.length - 1 - k) (by omega)
  have e : nth sh.reverse k = nth sh (sh.length - 1 - k) := by
    unfold nth
    rw [List.getD_eq_getElem?_getD, List.getD_eq_getElem?_getD, List.getElem?_reverse hk]
  rw [e]; exact this
theorem nth_mapN {l : List Nat} {f : Nat → Int} {k : Nat} (h : k < l.length) : nth (l.map f) k = f (l.getD k 0) := by
  unfold nth
  rw [List.getD_eq_getElem?_getD, List.getElem?_map, List.getElem?_eq_getElem h, List.getD_eq_getElem?_getD, List.getElem?_eq_getElem h]; rfl
/-- Its axes turned round twice, an array is itself. -/
theorem tp_twice {sh at' : List Int} (h : ∀ k, k < sh.length → 0 ≤ nth sh k) (hl : (at'.length : Int) = pr sh) : gth (gth at' (axsOf sh).reverse) (axsOf sh.reverse).reverse = at' := by
  rw [gth_tp h, gth_tp (nonneg_rev h), List.map_reverse]
  have e := tpN_twice (sh.map Int.toNat)
  have hlen : at'.length = prN (sh.map Int.toNat) := by rw [prN_pr h] at hl; omega
  refine Eq.trans ?_ (list_range at')
  rw [hlen, ← e, List.map_map]
  apply List.map_congr_left
  intro q hq
  have hb := tpN_bound _ q hq
  rw [prN_rev] at hb
  simp only [Function.comp]
  exact nth_mapN (by rw [tpN_len]; exact hb)
theorem lens_tp {sh : List Int} (h : ∀ k, k < sh.length → 0 ≤ nth sh k) : lens (axsOf sh).reverse = sh.reverse := by
  unfold lens
  rw [List.map_reverse]
  congr 1
  exact lens_axsOf h
theorem pls_tp_in {sh : List Int} {an : Nat} (h : ∀ k, k < sh.length → 0 ≤ nth sh k) (hl : (an : Int) = pr sh) : ∀ p, p ∈ pls (axsOf sh).reverse → p = -1 ∨ (0 ≤ p ∧ p < an) := by
  intro p hp
  rw [pls_tp h] at hp
  obtain ⟨q, hq, rfl⟩ := List.mem_map.1 hp
  have := tpN_bound _ q hq
  rw [prN_pr h] at hl
  right; omega
theorem pr_rev {sh : List Int} (h : ∀ k, k < sh.length → 0 ≤ nth sh k) : pr sh.reverse = pr sh := by
  rw [prN_pr (nonneg_rev h), prN_pr h, List.map_reverse, prN_rev]
theorem pz_rev (s : List Int) : pz s.reverse = pz s := by
  induction s with
  | nil => rfl
  | cons a s ih => rw [List.reverse_cons, pz_snoc, ih, pz_cons]; split <;> simp [Int.mul_comm]
theorem mayF_rev {sh : List Int} (h : mayF sh = 0) : mayF sh.reverse = 0 := by
  obtain ⟨h1, h2, h3⟩ := mayF_zero h
  exact mayF_ok (nonneg_rev h1) (by simpa using h2) (by rw [pz_rev]; exact h3)
theorem tp_may {sh at' : List Int} (my : mayA sh at' = 0) : mayA sh.reverse (gth at' (axsOf sh).reverse) = 0 := by
  obtain ⟨m1, m2⟩ := mayA_zero my
  have hz := (mayF_zero m1).1
  exact mayA_ok (mayF_rev m1) (by rw [gth_len, lens_tp hz])
end Go.Proofs.YtpfdiammgdnhmaaGreat
