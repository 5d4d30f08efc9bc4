
/- What the joined shape is, array by array. -/

import Derived.Test.YtjpdjnkmipfmbaaGreatC10
import Derived.Deep.RegionHeld3
import Derived.Test.YtjpdjnkmipfmbaaGreatC15
import Derived.Test.YtjpdjnkmipfmbaaGreatC13


namespace Go.Proofs.YtjpdjnkmipfmbaaGreat

open Go.RowKit

set_option linter.unusedVariables false

/-- A slice of n arrays reads as these. -/
structure As (w : World) (ao : Option Addr) (n : Nat) (xs : Nat → List Int × List Int) : Prop where
  room : n ≤ 1000000000000
  cells : 0 < n → ∃ b off, ao = some ⟨b, off, none⟩ ∧ b < w.heap.size ∧ ∀ k, k < n → ∃ so sn sc zo tn tc, w.cell? ⟨b, off + k * 2, none⟩ = some (.slice so sn sc) ∧ w.cell? ⟨b, off + k * 2 + 1, none⟩ = some (.slice zo tn tc) ∧ Rd w so sn (xs k).1 ∧ Sl so sn sc ∧ Rd w zo tn (xs k).2 ∧ Sl zo tn tc
theorem As.below {B : Nat} {w w' : World} {ao : Option Addr} {n : Nat} {xs : Nat → List Int × List Int} (h : As w ao n xs) (hb : Below B w w') (hB : w.heap.size ≤ B) : As w' ao n xs := by
  refine ⟨h.room, fun h0 => ?_⟩
  obtain ⟨b, off, e, hl, hc⟩ := h.cells h0
  refine ⟨b, off, e, Nat.lt_of_lt_of_le hl hb.size, fun k hk => ?_⟩
  obtain ⟨so, sn, sc, zo, tn, tc, a1, a2, a3, a4, a5, a6⟩ := hc k hk
  exact ⟨so, sn, sc, zo, tn, tc, (hb.cell (p := ⟨b, off + k * 2, none⟩) (Nat.lt_of_lt_of_le hl hB)).trans a1, (hb.cell (p := ⟨b, off + k * 2 + 1, none⟩) (Nat.lt_of_lt_of_le hl hB)).trans a2, a3.below hb hB, a4, a5.below hb hB, a6⟩
theorem Ac.as {W : World} {g m : Nat} {xs : Nat → List Int × List Int} (h : Ac W g m m xs) (hm : m ≤ 4096) : As W (some ⟨g, 0, none⟩) m xs := by
  refine ⟨by omega, fun _ => ⟨g, 0, rfl, h.lt, fun k hk => ?_⟩⟩
  obtain ⟨cur, h1, h2, h3⟩ := h.row
  obtain ⟨so, sn, sc, zo, tn, tc, a1, a2, a3, a4⟩ := h3 k hk
  exact ⟨so, sn, sc, zo, tn, tc, (cell_of_row W g _ _ _ (0, 0) h1).trans (by simpa using a1), (cell_of_row W g _ _ _ (0, 0) h1).trans (by simpa using a2), a3.rd, a3.sl, a4.rd, a4.sl⟩

end Go.Proofs.YtjpdjnkmipfmbaaGreat




namespace Go.Proofs.YtjpdjnkmipfmbaaGreat

open Go.RowKit

set_option linter.unusedVariables false

theorem nth_rng {n j : Nat} {f : Nat → Int} (h : j < n) : nth ((List.range n).map f) j = f j := by
  rw [nth_lt (by simpa using h)]; simp
theorem com_nth {a b : List Int} {i : Nat} (h : i < Nat.max a.length b.length) : nth (com a b) i = max (ext a (Nat.max a.length b.length) i) (ext b (Nat.max a.length b.length) i) := by unfold com; exact nth_rng h
theorem wn_self {s : List Int} (h : mayF s = 0) : Wn s s := ⟨h, h, Nat.le_refl _, fun i hi => by unfold ext; rw [if_pos (by omega)]; simp⟩
theorem wn_new {cm b : List Int} (h : mayF (com cm b) = 0) (hb : mayF b = 0) : Wn (com cm b) b := by
  refine ⟨h, hb, by rw [com_len]; exact Nat.le_max_right _ _, fun i hi => ?_⟩
  rw [com_len] at hi ⊢
  rw [com_nth hi]
  exact Int.le_max_right _ _
theorem wn_grow {cm sh b : List Int} (w : Wn cm sh) (h : mayF (com cm b) = 0) : Wn (com cm b) sh := by
  refine ⟨h, w.ms, by rw [com_len]; exact Nat.le_trans w.le (Nat.le_max_left _ _), fun i hi => ?_⟩
  have hle := w.le
  rw [com_len] at hi ⊢
  rw [com_nth hi]
  have hN : cm.length ≤ Nat.max cm.length b.length := Nat.le_max_left _ _
  generalize Nat.max cm.length b.length = N at *
  refine Int.le_trans ?_ (Int.le_max_left _ _)
  by_cases c : N - cm.length ≤ i
  · have d := w.dom (i - (N - cm.length)) (by omega)
    unfold ext at *
    rw [if_pos c]
    by_cases c2 : N - sh.length ≤ i
    · rw [if_pos (show cm.length - sh.length ≤ i - (N - cm.length) by omega)] at d
      rw [if_pos c2, show i - (N - sh.length) = i - (N - cm.length) - (cm.length - sh.length) by omega]
      exact d
    · rw [if_neg (show ¬ cm.length - sh.length ≤ i - (N - cm.length) by omega)] at d
      rw [if_neg c2]; exact d
  · unfold ext
    rw [if_neg (show ¬ N - sh.length ≤ i by omega), if_neg c]
    exact Int.le_refl _

theorem nxt_cmn (xs : Nat → List Int × List Int) (n : Nat) : nxt xs n (xs n).1 = cmn xs (n + 1) := by
  unfold nxt
  rw [cmn]
  by_cases h : n = 0
  · subst h; rfl
  · rw [if_neg h, if_neg h]
/-- Does Add refuse array k? -/
def jA (fs : List Int) (xs : Nat → List Int × List Int) (k : Nat) : Int := addE fs xs k (xs k).1 (xs k).2
/-- The first refusal among k arrays. -/
def jF (fs : List Int) (xs : Nat → List Int × List Int) : Nat → Int
  | 0 => 0
  | k + 1 => if jF fs xs k = 0 then jA fs xs k else jF fs xs k
theorem jF_all {fs : List Int} {xs : Nat → List Int × List Int} : ∀ {n : Nat}, jF fs xs n = 0 → ∀ k, k < n → jA fs xs k = 0
  | 0, _, k, hk => by omega
  | n + 1, h, k, hk => by
    unfold jF at h
    by_cases c : jF fs xs n = 0
    · rw [if_pos c] at h
      by_cases e : k = n
      · rw [e]; exact h
      · exact jF_all c k (by omega)
    · rw [if_neg c] at h; exact absurd h c
theorem jF_stays {fs : List Int} {xs : Nat → List Int × List Int} {n : Nat} : ∀ {m : Nat}, n ≤ m → jF fs xs n ≠ 0 → jF fs xs m = jF fs xs n
  | 0, h, _ => by rw [show n = 0 by omega]
  | m + 1, h, c => by
    by_cases e : n = m + 1
    · rw [e]
    · have := jF_stays (m := m) (by omega) c
      show (if jF fs xs m = 0 then jA fs xs m else jF fs xs m) = _
      rw [this, if_neg c]
theorem jA_parts {fs : List Int} {xs : Nat → List Int × List Int} {k : Nat} (h : jA fs xs k = 0) : (k : Int) ≠ pr fs ∧ mayA (xs k).1 (xs k).2 = 0 ∧ mayF (cmn xs (k + 1)) = 0 ∧ mayF (fs ++ cmn xs (k + 1)) = 0 := by
  unfold jA addE at h
  by_cases c1 : (k : Int) = pr fs
  · rw [if_pos c1] at h; omega
  rw [if_neg c1] at h
  by_cases c2 : mayA (xs k).1 (xs k).2 = 0
  · rw [if_neg (by omega), nxt_cmn] at h
    by_cases c3 : mayF (cmn xs (k + 1)) ≠ 0 ∨ mayF (fs ++ cmn xs (k + 1)) ≠ 0
    · rw [if_pos c3] at h; omega
    · exact ⟨c1, c2, Classical.byContradiction fun e => c3 (.inl e), Classical.byContradiction fun e => c3 (.inr e)⟩
  · rw [if_pos c2] at h; omega
theorem join_wn {fs : List Int} {xs : Nat → List Int × List Int} : ∀ {n : Nat}, (∀ k, k < n → jA fs xs k = 0) → ∀ j, j < n → Wn (cmn xs n) (xs j).1
  | 0, _, j, hj => by omega
  | n + 1, h, j, hj => by
    obtain ⟨a1, a2, a3, a4⟩ := jA_parts (h n (by omega))
    have ms := (mayA_zero a2).1
    by_cases c : n = 0
    · subst c
      obtain rfl : j = 0 := by omega
      show Wn (if 0 = 0 then (xs 0).1 else _) _
      rw [if_pos rfl]
      exact wn_self ms
    · have e : cmn xs (n + 1) = com (cmn xs n) (xs n).1 := by rw [cmn, if_neg c]
      rw [e] at a3 ⊢
      by_cases e2 : j = n
      · rw [e2]; exact wn_new a3 ms
      · exact wn_grow (join_wn (fun k hk => h k (by omega)) j (by omega)) a3
theorem join_le {fs : List Int} {xs : Nat → List Int × List Int} (h0 : 0 ≤ pr fs) : ∀ {n : Nat}, (∀ k, k < n → jA fs xs k = 0) → (n : Int) ≤ pr fs
  | 0, _ => h0
  | n + 1, h => by
    have a := join_le h0 (n := n) (fun k hk => h k (by omega))
    have b := (jA_parts (h n (by omega))).1
    omega
end Go.Proofs.YtjpdjnkmipfmbaaGreat
