
/- Axes moved and moved back, in numbers. -/

import Derived.Test.YtldhochafkcpiaaGreatBT
import Derived.Test.YtldhochafkcpiaaGreatAR3


namespace Go.Proofs.YtldhochafkcpiaaGreat

open Go.RowKit

set_option linter.unusedVariables false

/-- Places in two arrays at once: an axis has a length and two strides. -/
def st2 (ps : List (Nat × Nat)) (t : Nat × Nat × Nat) : List (Nat × Nat) := ps.flatMap fun p => (List.range t.1).map fun i => (p.1 + i * t.2.1, p.2 + i * t.2.2)
def pos2 (ps : List (Nat × Nat)) (ts : List (Nat × Nat × Nat)) : List (Nat × Nat) := ts.foldl st2 ps
theorem st2_fst (ps : List (Nat × Nat)) (t : Nat × Nat × Nat) : (st2 ps t).map Prod.fst = stN (ps.map Prod.fst) (t.1, t.2.1) := by
  unfold st2 stN
  rw [List.flatMap_map, List.map_flatMap]
  refine fm_congr fun p hp => ?_
  rw [List.map_map]; rfl
theorem st2_snd (ps : List (Nat × Nat)) (t : Nat × Nat × Nat) : (st2 ps t).map Prod.snd = stN (ps.map Prod.snd) (t.1, t.2.2) := by
  unfold st2 stN
  rw [List.flatMap_map, List.map_flatMap]
  refine fm_congr fun p hp => ?_
  rw [List.map_map]; rfl
theorem pos2_fst (ts : List (Nat × Nat × Nat)) : ∀ ps, (pos2 ps ts).map Prod.fst = posF (ps.map Prod.fst) (ts.map fun t => (t.1, t.2.1)) := by
  induction ts with
  | nil => intro ps; rfl
  | cons t ts ih => intro ps; show (pos2 (st2 ps t) ts).map _ = posF (stN _ _) _; rw [ih, st2_fst]
theorem pos2_snd (ts : List (Nat × Nat × Nat)) : ∀ ps, (pos2 ps ts).map Prod.snd = posF (ps.map Prod.snd) (ts.map fun t => (t.1, t.2.2)) := by
  induction ts with
  | nil => intro ps; rfl
  | cons t ts ih => intro ps; show (pos2 (st2 ps t) ts).map _ = posF (stN _ _) _; rw [ih, st2_snd]
theorem mem_st2 {q : Nat × Nat} {ps : List (Nat × Nat)} {t : Nat × Nat × Nat} : q ∈ st2 ps t ↔ ∃ p, p ∈ ps ∧ ∃ i, i < t.1 ∧ (p.1 + i * t.2.1, p.2 + i * t.2.2) = q := by
  unfold st2
  simp only [List.mem_flatMap, List.mem_map, List.mem_range]
theorem st2_mono {ps ps' : List (Nat × Nat)} (t : Nat × Nat × Nat) (h : ∀ q, q ∈ ps → q ∈ ps') : ∀ q, q ∈ st2 ps t → q ∈ st2 ps' t := by
  intro q hq
  obtain ⟨p, hp, i, hi, e⟩ := mem_st2.1 hq
  exact mem_st2.2 ⟨p, h p hp, i, hi, e⟩
theorem pos2_mono (ts : List (Nat × Nat × Nat)) : ∀ {ps ps' : List (Nat × Nat)}, (∀ q, q ∈ ps → q ∈ ps') → ∀ q, q ∈ pos2 ps ts → q ∈ pos2 ps' ts := by
  induction ts with
  | nil => intro ps ps' h; exact h
  | cons t ts ih => intro ps ps' h; exact ih (st2_mono t h)
theorem st2_swap (ps : List (Nat × Nat)) (s t : Nat × Nat × Nat) : ∀ q, q ∈ st2 (st2 ps s) t → q ∈ st2 (st2 ps t) s := by
  intro q hq
  obtain ⟨p, hp, i, hi, e⟩ := mem_st2.1 hq
  obtain ⟨p0, hp0, j, hj, e0⟩ := mem_st2.1 hp
  refine mem_st2.2 ⟨(p0.1 + i * t.2.1, p0.2 + i * t.2.2), mem_st2.2 ⟨p0, hp0, i, hi, rfl⟩, j, hj, ?_⟩
  rw [← e, ← e0]
  simp only [Prod.mk.injEq]
  constructor <;> omega
theorem pos2_perm {ts ts' : List (Nat × Nat × Nat)} (h : ts.Perm ts') : ∀ ps q, q ∈ pos2 ps ts → q ∈ pos2 ps ts' := by
  induction h with
  | nil => intro ps q hq; exact hq
  | cons t _ ih => intro ps q hq; exact ih (st2 ps t) q hq
  | swap s t l => intro ps q hq; exact pos2_mono l (st2_swap ps t s) q hq
  | trans _ _ h1 h2 => intro ps q hq; exact h2 ps q (h1 ps q hq)
theorem posF_row : ∀ r : List Nat, posF [0] (dOf r) = List.range (prN r)
  | [] => rfl
  | z :: r => by
    show posF (stN [0] (z, prN r)) (dOf r) = List.range (z * prN r)
    rw [posF_first, posF_row r, range_mul]
/-- The places of axes in another order, and then in the first order, are every place itself. -/
theorem there_back {ts ts' : List (Nat × Nat × Nat)} {r r' : List Nat} (hp : ts.Perm ts') (h1 : (ts.map fun t => (t.1, t.2.1)) = dOf r) (h2 : (ts'.map fun t => (t.1, t.2.2)) = dOf r') :
    ((posF [0] (ts.map fun t => (t.1, t.2.2))).map fun q => (posF [0] (ts'.map fun t => (t.1, t.2.1))).getD q 0) = List.range (prN r) := by
  have a1 := pos2_fst ts [(0, 0)]
  have a2 := pos2_snd ts [(0, 0)]
  have b1 := pos2_fst ts' [(0, 0)]
  have b2 := pos2_snd ts' [(0, 0)]
  rw [h1] at a1
  rw [h2] at b2
  rw [show ([(0, 0)] : List (Nat × Nat)).map Prod.fst = [0] from rfl] at a1 b1
  rw [show ([(0, 0)] : List (Nat × Nat)).map Prod.snd = [0] from rfl] at a2 b2
  rw [posF_row] at a1 b2
  rw [← a2, ← b1, ← a1, List.map_map]
  apply List.map_congr_left
  intro q hq
  have hq' := pos2_perm hp _ q hq
  obtain ⟨k, hk, ek⟩ := List.getElem_of_mem hq'
  have hk2 : q.2 = k := by
    have : ((pos2 [(0, 0)] ts').map Prod.snd)[k]'(by simpa using hk) = k := by
      simp only [b2, List.getElem_range]
    rw [List.getElem_map, ek] at this
    exact this
  simp only [Function.comp]
  rw [hk2, List.getD_eq_getElem?_getD, List.getElem?_map, List.getElem?_eq_getElem hk, ek]; rfl
theorem posF_in {ds : List (Nat × Nat)} {r : List Nat} (hp : ds.Perm (dOf r)) : ∀ p, p ∈ posF [0] ds → p < prN r := by
  intro p h
  have e := pos2_fst (ds.map fun d => (d.1, d.2, 0)) [(0, 0)]
  have e2 := pos2_fst ((dOf r).map fun d => (d.1, d.2, 0)) [(0, 0)]
  rw [List.map_map, show ((fun t : Nat × Nat × Nat => (t.1, t.2.1)) ∘ fun d : Nat × Nat => (d.1, d.2, 0)) = id from rfl, List.map_id] at e e2
  rw [show ([(0, 0)] : List (Nat × Nat)).map Prod.fst = [0] from rfl] at e e2
  rw [← e] at h
  obtain ⟨q, hq, rfl⟩ := List.mem_map.1 h
  have := List.mem_map_of_mem (f := Prod.fst) (pos2_perm (hp.map fun d => (d.1, d.2, 0)) _ q hq)
  rw [e2, posF_row] at this
  exact List.mem_range.1 this

/-- All axes, each once. -/
theorem Gd.sen {n : Nat} {xs : List Int} (G : Gd n xs) : ∀ k, k ≤ xs.length → (sen n xs k).Nodup ∧ ∀ i, i ∈ sen n xs k → i < n
  | 0, _ => ⟨List.nodup_nil, fun i h => by simp [Proofs.YtldhochafkcpiaaGreat.sen] at h⟩
  | k + 1, hk => by
    obtain ⟨a, b⟩ := Gd.sen G k (by omega)
    obtain ⟨g1, g2, g3⟩ := G k (by omega)
    rw [sen_succ (by omega)]
    refine ⟨List.nodup_append.2 ⟨a, by simp, fun x hx y hy e => ?_⟩, fun i hi => ?_⟩
    · rw [List.mem_singleton.1 hy] at e
      rw [e] at hx
      simp [hx] at g3
    · rcases List.mem_append.1 hi with h | h
      · exact b i h
      · rw [List.mem_singleton.1 h]; unfold nrm; split <;> omega
theorem prm_perm {n : Nat} {S : List Nat} (h1 : S.Nodup) (h2 : ∀ i, i ∈ S → i < n) : (rst S n ++ S).Perm (List.range n) := by
  refine List.Perm.trans ?_ (List.filter_append_perm (fun i => !S.contains i) (List.range n))
  refine List.Perm.append (List.Perm.refl _) ?_
  refine (List.perm_ext_iff_of_nodup h1 (List.Pairwise.filter _ List.nodup_range)).2 fun a => ?_
  simp only [List.mem_filter, List.mem_range, Bool.not_not, List.contains_iff_mem]
  exact ⟨fun h => ⟨h2 a h, h⟩, fun h => h.2⟩
theorem Gd.perm {n : Nat} {xs : List Int} (G : Gd n xs) : (prm n xs).Perm (List.range n) := prm_perm (G.sen _ (Nat.le_refl _)).1 (G.sen _ (Nat.le_refl _)).2
theorem Gd.le {n : Nat} {xs : List Int} (G : Gd n xs) : xs.length ≤ n := by
  have := G.perm.length_eq
  simp only [prm, List.length_append, List.length_range, sen_len (Nat.le_refl _)] at this
  omega
theorem rst_full {n : Nat} {S : List Nat} (h : S.Perm (List.range n)) : rst S n = [] := by
  unfold rst
  rw [List.filter_eq_nil_iff]
  intro a ha
  simp [h.mem_iff.2 ha]

theorem dOf_len : ∀ r : List Nat, (dOf r).length = r.length
  | [] => rfl
  | z :: r => by show (dOf r).length + 1 = r.length + 1; rw [dOf_len r]
theorem dOf_fst : ∀ (r : List Nat), (dOf r).map Prod.fst = r
  | [] => rfl
  | z :: r => by show z :: (dOf r).map Prod.fst = z :: r; rw [dOf_fst r]
theorem nax_dOf {sy : List Int} (h : ∀ k, k < sy.length → 0 ≤ nth sy k) {k : Nat} (hk : k < sy.length) : nax (axsOf sy) k = axN ((dOf (sy.map Int.toNat)).getD k (0, 0)) := by
  unfold nax
  rw [axsOf_dOf h, List.getD_eq_getElem?_getD, List.getElem?_map, List.getD_eq_getElem?_getD, List.getElem?_eq_getElem (by rw [dOf_len]; simpa using hk)]; rfl
/-- The axes of an array, in another order. -/
theorem axes_dOf {sy : List Int} {pi : List Nat} (h : ∀ k, k < sy.length → 0 ≤ nth sy k) (hp : ∀ i, i ∈ pi → i < sy.length) : pi.map (nax (axsOf sy)) = (pi.map fun k => (dOf (sy.map Int.toNat)).getD k (0, 0)).map axN := by
  rw [List.map_map]
  exact List.map_congr_left fun k hk => nax_dOf h (hp k hk)
theorem pls_axes {sy : List Int} {pi : List Nat} (h : ∀ k, k < sy.length → 0 ≤ nth sy k) (hp : ∀ i, i ∈ pi → i < sy.length) : pls (pi.map (nax (axsOf sy))) = (posF [0] (pi.map fun k => (dOf (sy.map Int.toNat)).getD k (0, 0))).map fun (p : Nat) => (p : Int) := by
  rw [axes_dOf h hp]
  exact plsF_posF _ [0]
theorem getD_range {α : Type} (l : List α) (d : α) : ((List.range l.length).map fun k => l.getD k d) = l := by
  apply List.ext_getElem
  · simp
  · intro i h1 h2
    simp [List.getD_eq_getElem?_getD, List.getElem?_eq_getElem h2]
theorem pi_dims {r : List Nat} {pi : List Nat} (hp : pi.Perm (List.range r.length)) : (pi.map fun k => (dOf r).getD k (0, 0)).Perm (dOf r) := by
  have e := hp.map fun k => (dOf r).getD k (0, 0)
  rwa [← dOf_len, getD_range] at e
theorem pls_axes_in {sy : List Int} {pi : List Nat} {an : Nat} (h : ∀ k, k < sy.length → 0 ≤ nth sy k) (hp : pi.Perm (List.range sy.length)) (hl : (an : Int) = pr sy) : ∀ p, p ∈ pls (pi.map (nax (axsOf sy))) → p = -1 ∨ (0 ≤ p ∧ p < an) := by
  intro p hm
  rw [pls_axes h fun i hi => List.mem_range.1 (hp.mem_iff.1 hi)] at hm
  obtain ⟨q, hq, rfl⟩ := List.mem_map.1 hm
  have := posF_in (r := sy.map Int.toNat) (pi_dims (by simpa using hp)) q hq
  rw [prN_pr h] at hl
  right; omega
theorem nth_mapN' {l : List Nat} {f : Nat → Int} {k : Nat} (h : k < l.length) : nth (l.map f) k = f (l.getD k 0) := by
  unfold nth
  rw [List.getD_eq_getElem?_getD, List.getElem?_map, List.getD_eq_getElem?_getD, List.getElem?_eq_getElem h]; rfl
theorem getD_mem {l : List Nat} {k : Nat} (h : k < l.length) : l.getD k 0 ∈ l := by
  rw [List.getD_eq_getElem?_getD, List.getElem?_eq_getElem h]
  exact List.getElem_mem h
theorem gth_axes {sy ay : List Int} {pi : List Nat} (h : ∀ k, k < sy.length → 0 ≤ nth sy k) (hp : ∀ i, i ∈ pi → i < sy.length) : gth ay (pi.map (nax (axsOf sy))) = (posF [0] (pi.map fun k => (dOf (sy.map Int.toNat)).getD k (0, 0))).map (nth ay) := by
  unfold gth
  rw [pls_axes h hp, List.map_map]
  apply List.map_congr_left
  intro q _
  simp only [Function.comp, gAt]
  rw [if_neg (by omega), Int.toNat_natCast]
/-- The shape of the moved array. -/
theorem lens_axes {sy : List Int} {pi : List Nat} (h : ∀ k, k < sy.length → 0 ≤ nth sy k) (hp : ∀ i, i ∈ pi → i < sy.length) : lens (pi.map (nax (axsOf sy))) = pi.map (nth sy) := by
  unfold lens
  rw [List.map_map]
  apply List.map_congr_left
  intro k hk
  have hk' := hp k hk
  simp only [Function.comp]
  rw [nax_dOf h hk']
  show (((dOf (sy.map Int.toNat)).getD k (0, 0)).1 : Int) = nth sy k
  have e : ((dOf (sy.map Int.toNat)).map Prod.fst).getD k 0 = ((dOf (sy.map Int.toNat)).getD k (0, 0)).1 := by
    rw [List.getD_eq_getElem?_getD, List.getElem?_map, List.getD_eq_getElem?_getD, List.getElem?_eq_getElem (by rw [dOf_len]; simpa using hk')]; rfl
  rw [← e, dOf_fst]
  have h0 := h k hk'
  unfold nth at h0 ⊢
  rw [List.getD_eq_getElem?_getD, List.getElem?_map]
  rw [List.getD_eq_getElem?_getD, List.getElem?_eq_getElem hk'] at h0 ⊢
  simp only [Option.map_some, Option.getD_some] at h0 ⊢
  omega
theorem nonneg_pi {sy : List Int} {pi : List Nat} (h : ∀ k, k < sy.length → 0 ≤ nth sy k) (hp : ∀ i, i ∈ pi → i < sy.length) : ∀ k, k < (pi.map (nth sy)).length → 0 ≤ nth (pi.map (nth sy)) k := by
  intro k hk
  rw [List.length_map] at hk
  rw [nth_mapN' hk]
  exact h _ (hp _ (getD_mem hk))
/-- Axes moved and moved back. -/
theorem gth_back {sy ay : List Int} {pi be : List Nat} (h : ∀ k, k < sy.length → 0 ≤ nth sy k) (hl : (ay.length : Int) = pr sy) (hp : pi.Perm (List.range sy.length)) (hb : be.Perm (List.range sy.length)) (hpb : ∀ k, k < sy.length → pi.getD (be.getD k 0) 0 = k) :
    gth (gth ay (pi.map (nax (axsOf sy)))) (be.map (nax (axsOf (pi.map (nth sy))))) = ay := by
  have pl : pi.length = sy.length := by simpa using hp.length_eq
  have bl : be.length = sy.length := by simpa using hb.length_eq
  have pm : ∀ i, i ∈ pi → i < sy.length := fun i hi => List.mem_range.1 (hp.mem_iff.1 hi)
  have bm : ∀ i, i ∈ be → i < sy.length := fun i hi => List.mem_range.1 (hb.mem_iff.1 hi)
  rw [gth_axes h pm, gth_axes (nonneg_pi h pm) (by rw [List.length_map, pl]; exact bm)]
  have er' : (pi.map (nth sy)).map Int.toNat = pi.map fun k => (sy.map Int.toNat).getD k 0 := by
    rw [List.map_map]
    apply List.map_congr_left
    intro k hk
    have hk' := pm k hk
    simp only [Function.comp, nth]
    rw [List.getD_eq_getElem?_getD, List.getD_eq_getElem?_getD, List.getElem?_map, List.getElem?_eq_getElem hk']; rfl
  obtain ⟨r, hr⟩ : ∃ r, r = sy.map Int.toNat := ⟨_, rfl⟩
  obtain ⟨r', hr'⟩ : ∃ r', r' = (pi.map (nth sy)).map Int.toNat := ⟨_, rfl⟩
  have rl : r.length = sy.length := by rw [hr]; simp
  have rl' : r'.length = sy.length := by rw [hr']; simpa using pl
  rw [← hr', ← hr]
  rw [← hr, ← hr'] at er'
  have fst_at : ∀ (s : List Nat) (k : Nat), ((dOf s).getD k (0, 0)).1 = s.getD k 0 := fun s k => by
    have e : ((dOf s).map Prod.fst).getD k 0 = ((dOf s).getD k (0, 0)).1 := by
      rw [List.getD_eq_getElem?_getD, List.getElem?_map, List.getD_eq_getElem?_getD]
      cases (dOf s)[k]? <;> rfl
    rw [← e, dOf_fst]
  have r'at : ∀ k, k < sy.length → r'.getD k 0 = r.getD (pi.getD k 0) 0 := fun k hk => by
    rw [er', List.getD_eq_getElem?_getD, List.getElem?_map, List.getElem?_eq_getElem (by omega)]
    simp only [Option.map_some, Option.getD_some]
    congr 1
    rw [List.getD_eq_getElem?_getD, List.getElem?_eq_getElem (by omega)]; rfl
  have beAt : ∀ k, k < sy.length → be.getD k 0 < sy.length := fun k hk => bm _ (getD_mem (by omega))
  obtain ⟨T, hT⟩ : ∃ T : Nat → Nat × Nat × Nat, T = fun i => (r'.getD i 0, ((dOf r).getD (pi.getD i 0) (0, 0)).2, ((dOf r').getD i (0, 0)).2) := ⟨_, rfl⟩
  have TB := there_back (ts := be.map T) (ts' := (List.range sy.length).map T) (r := r) (r' := r') (hb.map T)
    (by
      rw [List.map_map]
      have e : be.map ((fun t : Nat × Nat × Nat => (t.1, t.2.1)) ∘ T) = (List.range be.length).map fun k => ((fun t : Nat × Nat × Nat => (t.1, t.2.1)) ∘ T) (be.getD k 0) := by
        conv => lhs; rw [← getD_range be 0, List.map_map]
        rfl
      rw [e, bl]
      rw [← getD_range (dOf r) (0, 0), dOf_len, rl]
      apply List.map_congr_left
      intro k hk
      have hk' := List.mem_range.1 hk
      rw [hT]
      simp only [Function.comp]
      rw [r'at _ (beAt k hk'), hpb k hk', ← fst_at])
    (by
      rw [List.map_map, ← getD_range (dOf r') (0, 0), dOf_len, rl']
      apply List.map_congr_left
      intro k hk
      rw [hT]
      simp only [Function.comp]
      rw [← fst_at])
  have eL : (((List.range sy.length).map T).map fun t => (t.1, t.2.1)) = pi.map fun k => (dOf r).getD k (0, 0) := by
    rw [List.map_map]
    have e : (pi.map fun k => (dOf r).getD k (0, 0)) = (List.range pi.length).map fun k => (dOf r).getD (pi.getD k 0) (0, 0) := by
      rw [show (fun k => (dOf r).getD (pi.getD k 0) (0, 0)) = (fun k => (dOf r).getD k (0, 0)) ∘ fun k => pi.getD k 0 from rfl, ← List.map_map, getD_range]
    rw [e, pl]
    apply List.map_congr_left
    intro k hk
    have hk' := List.mem_range.1 hk
    rw [hT]
    simp only [Function.comp]
    rw [r'at k hk', ← fst_at]
  have eM : ((be.map T).map fun t => (t.1, t.2.2)) = be.map fun k => (dOf r').getD k (0, 0) := by
    rw [List.map_map]
    apply List.map_congr_left
    intro k hk
    rw [hT]
    simp only [Function.comp]
    rw [← fst_at]
  rw [eL, eM] at TB
  obtain ⟨L, hL⟩ : ∃ L, L = posF [0] (pi.map fun k => (dOf r).getD k (0, 0)) := ⟨_, rfl⟩
  have Lp : ∀ p, p ∈ L → p < prN r := by rw [hL]; exact posF_in (pi_dims (by rw [rl]; exact hp))
  have ayl : ay.length = prN r := by rw [prN_pr h, ← hr] at hl; exact_mod_cast hl
  obtain ⟨M, hM⟩ : ∃ M, M = posF [0] (be.map fun k => (dOf r').getD k (0, 0)) := ⟨_, rfl⟩
  have Mp : ∀ p, p ∈ M → p < L.length := by
    intro p hp'
    have : (be.map fun k => (dOf r').getD k (0, 0)).Perm (dOf r') := pi_dims (by rw [rl']; exact hb)
    have h2 : p < prN r' := by rw [hM] at hp'; exact posF_in this p hp'
    have e : L.length = prN r' := by
      have b1 := pos2_fst ((List.range sy.length).map T) [(0, 0)]
      have b2 := pos2_snd ((List.range sy.length).map T) [(0, 0)]
      rw [eL] at b1
      have e2 : (((List.range sy.length).map T).map fun t => (t.1, t.2.2)) = dOf r' := by
        rw [List.map_map, ← getD_range (dOf r') (0, 0), dOf_len, rl']
        apply List.map_congr_left
        intro k hk
        rw [hT]
        simp only [Function.comp]
        rw [← fst_at]
      rw [e2] at b2
      rw [show ([(0, 0)] : List (Nat × Nat)).map Prod.fst = [0] from rfl, ← hL] at b1
      rw [show ([(0, 0)] : List (Nat × Nat)).map Prod.snd = [0] from rfl, posF_row] at b2
      have c1 := congrArg List.length b1
      have c2 := congrArg List.length b2
      simp only [List.length_map, List.length_range] at c1 c2
      omega
    omega
  rw [← hL, ← hM] at TB ⊢
  have e : M.map (nth (L.map (nth ay))) = (M.map fun q => L.getD q 0).map (nth ay) := by
    rw [List.map_map]
    apply List.map_congr_left
    intro q hq
    exact nth_mapN' (Mp q hq)
  rw [e, TB, ← ayl]
  exact getD_range ay 0
theorem lens_back {sy : List Int} {pi be : List Nat} (h : ∀ k, k < sy.length → 0 ≤ nth sy k) (hp : pi.Perm (List.range sy.length)) (hb : be.Perm (List.range sy.length)) (hpb : ∀ k, k < sy.length → pi.getD (be.getD k 0) 0 = k) :
    be.map (nth (pi.map (nth sy))) = sy := by
  have pl : pi.length = sy.length := by simpa using hp.length_eq
  have bl : be.length = sy.length := by simpa using hb.length_eq
  have bm : ∀ i, i ∈ be → i < sy.length := fun i hi => List.mem_range.1 (hb.mem_iff.1 hi)
  rw [← getD_range be 0, List.map_map, bl]
  conv => rhs; rw [← getD_range sy 0]
  apply List.map_congr_left
  intro k hk
  have hk' := List.mem_range.1 hk
  simp only [Function.comp]
  rw [nth_mapN' (by rw [pl]; exact bm _ (getD_mem (by omega))), hpb k hk']; rfl
end Go.Proofs.YtldhochafkcpiaaGreat
