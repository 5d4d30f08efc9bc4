
/- The places that axes lead to: what gather takes. -/

import Derived.Test.YtldhochafkcpiaaGreatC4

namespace Go.Proofs.YtldhochafkcpiaaGreat

open Go.RowKit

set_option linter.unusedVariables false

/-- An axis of an answer: its length, the length of the axis that it comes from, how far apart neighbours lie there, and which index it takes at each. -/
structure Ax where
  len : Nat
  wid : Nat
  stp : Nat
  f : Nat → Int

def alg (a : Ax) (p : Int) (i : Nat) : Int := if p = -1 ∨ a.f i < 0 ∨ (a.wid : Int) ≤ a.f i then -1 else p + a.f i * (a.stp : Int)
def blw (a : Ax) (ps : List Int) : List Int := ps.flatMap fun p => (List.range a.len).map (alg a p)
def plsF (ps : List Int) (axs : List Ax) : List Int := axs.foldl (fun ps a => blw a ps) ps
def pls (axs : List Ax) : List Int := plsF [0] axs
def gAt (at' : List Int) (p : Int) : Int := if p = -1 then 0 else nth at' p.toNat
def gth (at' : List Int) (axs : List Ax) : List Int := (pls axs).map (gAt at')
def lens (axs : List Ax) : List Int := axs.map fun a => (a.len : Int)

theorem blw_len (a : Ax) (ps : List Int) : (blw a ps).length = ps.length * a.len := by
  unfold blw
  induction ps with
  | nil => simp
  | cons p r ih => rw [List.flatMap_cons, List.length_append, ih]; simp [Nat.add_mul, Nat.add_comm]
theorem blw_snoc (a : Ax) (ps : List Int) (p : Int) : blw a (ps ++ [p]) = blw a ps ++ (List.range a.len).map (alg a p) := by
  unfold blw; rw [List.flatMap_append]; simp
theorem plsF_snoc (ps : List Int) (axs : List Ax) (a : Ax) : plsF ps (axs ++ [a]) = blw a (plsF ps axs) := by
  unfold plsF; rw [List.foldl_append]; rfl
theorem plsF_cons (ps : List Int) (axs : List Ax) (a : Ax) : plsF ps (a :: axs) = plsF (blw a ps) axs := rfl
theorem plsF_len (ps : List Int) : ∀ axs : List Ax, ((plsF ps axs).length : Int) = ps.length * pr (lens axs)
  | [] => by simp [plsF, lens, pr]
  | a :: r => by
    rw [plsF_cons, plsF_len, blw_len]
    show _ = (ps.length : Int) * pr ((a.len : Int) :: lens r)
    rw [show ((a.len : Int) :: lens r) = [(a.len : Int)] ++ lens r from rfl, pr_app]
    simp [pr, Int.mul_assoc]
theorem pls_len (axs : List Ax) : ((pls axs).length : Int) = pr (lens axs) := by
  have := plsF_len [0] axs
  simpa [pls] using this
/-- Every place is one, or none. -/
def inPl (B : Int) (ps : List Int) : Prop := ∀ p, p ∈ ps → -1 ≤ p ∧ p ≤ B
theorem inPl_blw {B : Int} {ps : List Int} {a : Ax} (h : inPl B ps) (hw : a.wid ≤ 4096) (hs : a.stp ≤ 4096) (hB : 0 ≤ B) : inPl (B + 16777216) (blw a ps) := by
  intro p hp
  unfold blw at hp
  obtain ⟨q, hq, hp⟩ := List.mem_flatMap.1 hp
  obtain ⟨i, hi, rfl⟩ := List.mem_map.1 hp
  have := h q hq
  unfold alg
  split
  · omega
  · rename_i hc
    have h0 : 0 ≤ a.f i := by omega
    have h1 : a.f i ≤ 4096 := by omega
    have := Int.mul_le_mul h1 (show (a.stp : Int) ≤ 4096 by omega) (by omega) (by omega)
    have := Int.mul_nonneg h0 (show (0 : Int) ≤ a.stp by omega)
    omega

/-- The axes of a shape, each as it is. -/
def axsOf : List Int → List Ax
  | [] => []
  | z :: r => ⟨z.toNat, z.toNat, (pr r).toNat, fun i => (i : Int)⟩ :: axsOf r
theorem axsOf_len : ∀ s, (axsOf s).length = s.length
  | [] => rfl
  | z :: r => by simp [axsOf, axsOf_len r]
theorem lens_axsOf : ∀ {s : List Int}, (∀ k, k < s.length → 0 ≤ nth s k) → lens (axsOf s) = s
  | [], _ => rfl
  | z :: r, h => by
    have h0 : 0 ≤ z := h 0 (by simp)
    have ih := lens_axsOf (s := r) (fun k hk => h (k + 1) (by simpa using hk))
    show ((z.toNat : Nat) : Int) :: lens (axsOf r) = z :: r
    rw [ih, Int.toNat_of_nonneg h0]

/-- What lies below a place. -/
def spr (R : Nat) (p : Int) : List Int := (List.range R).map fun (j : Nat) => if p = -1 then (-1 : Int) else p + (j : Int)
theorem fm_congr {α β : Type} {l : List α} {f g : α → List β} (h : ∀ x, x ∈ l → f x = g x) : l.flatMap f = l.flatMap g := by
  induction l with
  | nil => rfl
  | cons x r ih => rw [List.flatMap_cons, List.flatMap_cons, h x (by simp), ih fun y hy => h y (by simp [hy])]
theorem range_mul (n m : Nat) : (List.range n).flatMap (fun i => (List.range m).map (fun j => i * m + j)) = List.range (n * m) := by
  induction n with
  | zero => simp
  | succ n ih =>
    rw [List.range_succ, List.flatMap_append, ih, Nat.succ_mul]
    apply List.ext_getElem
    · simp
    · intro i h1 h2
      simp only [List.flatMap_cons, List.flatMap_nil, List.append_nil]
      by_cases h : i < n * m
      · rw [List.getElem_append_left (by simpa using h)]; simp
      · rw [List.getElem_append_right (by simpa using h)]; simp; omega
theorem pr_nonneg : ∀ {s : List Int}, (∀ k, k < s.length → 0 ≤ nth s k) → 0 ≤ pr s
  | [], _ => by simp [pr]
  | z :: r, h => by
    rw [pr_cons]
    exact Int.mul_nonneg (h 0 (by simp)) (pr_nonneg fun k hk => h (k + 1) (by simpa using hk))
theorem plsF_plain : ∀ {s : List Int} (ps : List Int), (∀ k, k < s.length → 0 ≤ nth s k) → (∀ p, p ∈ ps → -1 ≤ p) → plsF ps (axsOf s) = ps.flatMap (spr (pr s).toNat)
  | [], ps, _, _ => by
    show ps = _
    have : ∀ p : Int, spr (pr []).toNat p = [p] := by
      intro p; simp only [spr, pr, List.foldl_nil]
      rw [show (1 : Int).toNat = 1 from rfl, List.range_one]
      simp only [List.map_cons, List.map_nil]
      congr 1
      by_cases h : p = -1 <;> simp [h]
    rw [show spr (pr []).toNat = fun p => [p] from funext this]
    simp
  | z :: r, ps, h, hp => by
    have h0 : 0 ≤ z := h 0 (by simp)
    have hr : ∀ k, k < r.length → 0 ≤ nth r k := fun k hk => h (k + 1) (by simpa using hk)
    have hR := pr_nonneg hr
    show plsF (blw ⟨z.toNat, z.toNat, (pr r).toNat, fun i => (i : Int)⟩ ps) (axsOf r) = _
    have hge : ∀ p, p ∈ blw ⟨z.toNat, z.toNat, (pr r).toNat, fun i => (i : Int)⟩ ps → -1 ≤ p := by
      intro p hq
      unfold blw at hq
      obtain ⟨q, hq1, hq2⟩ := List.mem_flatMap.1 hq
      obtain ⟨i, hi, rfl⟩ := List.mem_map.1 hq2
      have := hp q hq1
      unfold alg
      split
      · omega
      · have := Int.mul_nonneg (show (0 : Int) ≤ (i : Int) by omega) (show (0 : Int) ≤ ((pr r).toNat : Int) by omega)
        dsimp only; omega
    rw [plsF_plain _ hr hge, pr_cons, Int.toNat_mul h0 hR]
    unfold blw
    rw [List.flatMap_assoc]
    refine fm_congr fun p hpm => ?_
    have hp1 := hp p hpm
    rw [List.flatMap_map]
    unfold spr
    rw [← range_mul, List.map_flatMap]
    refine fm_congr fun i hi => ?_
    have hi : i < z.toNat := by simpa using hi
    rw [List.map_map]
    apply List.map_congr_left
    intro j hj
    simp only [Function.comp]
    unfold alg
    dsimp only
    by_cases c : p = -1
    · rw [if_pos (Or.inl c), if_pos rfl, if_pos c]
    · have hn := Int.mul_nonneg (show (0 : Int) ≤ (i : Int) by omega) (show (0 : Int) ≤ ((pr r).toNat : Int) by omega)
      rw [if_neg (by omega), if_neg (by omega), if_neg c]
      push_cast
      omega

/-- n rows of R numbers. -/
def rows (n R : Nat) (F : Nat → Nat → Int) : List Int := (List.range n).flatMap fun i => (List.range R).map (F i)
theorem rows_congr {n R : Nat} {F G : Nat → Nat → Int} (h : ∀ i, i < n → ∀ j, j < R → F i j = G i j) : rows n R F = rows n R G := by
  unfold rows
  refine fm_congr fun i hi => ?_
  apply List.map_congr_left
  intro j hj
  exact h i (by simpa using hi) j (by simpa using hj)
theorem rows_flat (n R : Nat) (g : Nat → Int) : rows n R (fun i j => g (i * R + j)) = (List.range (n * R)).map g := by
  unfold rows
  rw [← range_mul, List.map_flatMap]
  refine fm_congr fun i hi => ?_
  rw [List.map_map]; rfl
theorem list_range (l : List Int) : (List.range l.length).map (nth l) = l := by
  apply List.ext_getElem
  · simp
  · intro i h1 h2; simp [nth_lt h2]
theorem rows_self {n R : Nat} {l : List Int} (h : l.length = n * R) : rows n R (fun i j => nth l (i * R + j)) = l := by
  rw [rows_flat n R (nth l), ← h, list_range]

/-- Where the first axis alone is changed: row by row. -/
theorem gth_first (at' : List Int) (a : Ax) {s : List Int} (h : ∀ k, k < s.length → 0 ≤ nth s k) (hs : a.stp = (pr s).toNat) :
    gth at' (a :: axsOf s) = rows a.len (pr s).toNat (fun i j => if a.f i < 0 ∨ (a.wid : Int) ≤ a.f i then 0 else nth at' ((a.f i).toNat * (pr s).toNat + j)) := by
  have e1 : blw a [0] = (List.range a.len).map (alg a 0) := by unfold blw; simp
  unfold gth pls
  rw [plsF_cons, e1, plsF_plain _ h (fun p hp => by
    obtain ⟨i, hi, rfl⟩ := List.mem_map.1 hp
    unfold alg
    split
    · omega
    · have := Int.mul_nonneg (show 0 ≤ a.f i by omega) (show (0 : Int) ≤ (a.stp : Int) by omega)
      omega)]
  unfold rows
  rw [List.map_flatMap, List.flatMap_map]
  refine fm_congr fun i hi => ?_
  unfold spr
  rw [List.map_map]
  apply List.map_congr_left
  intro j hj
  simp only [Function.comp]
  unfold alg
  by_cases c : a.f i < 0 ∨ (a.wid : Int) ≤ a.f i
  · rw [if_pos (Or.inr c), if_pos rfl, if_pos c]; rfl
  · have hn := Int.mul_nonneg (show 0 ≤ a.f i by omega) (show (0 : Int) ≤ (a.stp : Int) by omega)
    rw [if_neg c, if_neg (by omega), if_neg (by omega)]
    unfold gAt
    rw [if_neg (by omega)]
    congr 1
    rw [hs, Int.zero_add] at *
    rw [Int.toNat_add (by omega) (by omega), Int.toNat_mul (by omega) (by omega), Int.toNat_natCast, Int.toNat_natCast]
theorem pls_first_in {a : Ax} {s : List Int} (h : ∀ k, k < s.length → 0 ≤ nth s k) (hs : a.stp = (pr s).toNat) {n : Nat} (hn : (a.wid : Int) * pr s ≤ n) :
    ∀ p, p ∈ pls (a :: axsOf s) → p = -1 ∨ (0 ≤ p ∧ p < n) := by
  have hR := pr_nonneg h
  have e1 : blw a [0] = (List.range a.len).map (alg a 0) := by unfold blw; simp
  unfold pls
  rw [plsF_cons, e1, plsF_plain _ h (fun p hp => by
    obtain ⟨i, hi, rfl⟩ := List.mem_map.1 hp
    unfold alg
    split
    · omega
    · have := Int.mul_nonneg (show 0 ≤ a.f i by omega) (show (0 : Int) ≤ (a.stp : Int) by omega)
      omega)]
  intro p hp
  obtain ⟨q, hq, hp⟩ := List.mem_flatMap.1 hp
  obtain ⟨i, hi, rfl⟩ := List.mem_map.1 hq
  unfold spr at hp
  obtain ⟨j, hj, rfl⟩ := List.mem_map.1 hp
  have hj : j < (pr s).toNat := by simpa using hj
  by_cases c : a.f i < 0 ∨ (a.wid : Int) ≤ a.f i
  · left; unfold alg; rw [if_pos (Or.inr c), if_pos rfl]
  · right
    have hn' := Int.mul_nonneg (show 0 ≤ a.f i by omega) (show (0 : Int) ≤ (a.stp : Int) by omega)
    unfold alg
    rw [if_neg (by omega), if_neg (by omega)]
    have hs' : (a.stp : Int) = pr s := by omega
    have := Int.mul_le_mul_of_nonneg_right (show a.f i + 1 ≤ (a.wid : Int) by omega) hR
    rw [Int.add_mul, Int.one_mul] at this
    rw [hs'] at hn' ⊢
    omega
end Go.Proofs.YtldhochafkcpiaaGreat
