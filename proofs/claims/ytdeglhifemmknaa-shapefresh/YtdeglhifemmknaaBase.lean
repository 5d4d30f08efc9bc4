
/- Lists of numbers in memory: what a slice reads as, and what the document's words are of lists. -/

import Derived.WalkKit

import Derived.Deep.QuietTactic

import Derived.BigQuiet

import Derived.Laws.OwnMore

namespace Go.Proofs.Ytdeglhifemmknaa

open Go.RowKit

set_option linter.unusedVariables false

/-- The k-th number of a list. -/
def nth (zs : List Int) (k : Nat) : Int := zs.getD k 0

theorem nth_lt {zs : List Int} {k : Nat} (h : k < zs.length) : nth zs k = zs[k] := by
  simp [nth, h]
theorem nth_map {zs : List Int} {k : Nat} (h : k < zs.length) : (zs.map (Value.int .i64))[k]? = some (.int .i64 (nth zs k)) := by
  simp [nth, h]
theorem ext_nth {a b : List Int} (hl : a.length = b.length) (h : ∀ k, k < a.length → nth a k = nth b k) : a = b := by
  apply List.ext_getElem hl
  intro i h1 h2
  have := h i h1
  rwa [nth_lt h1, nth_lt h2] at this
theorem nth_mem {zs : List Int} {k : Nat} (h : k < zs.length) : nth zs k ∈ zs := by
  rw [nth_lt h]; exact List.getElem_mem h
theorem take_nth {zs : List Int} {k : Nat} (h : k < zs.length) : zs.take (k + 1) = zs.take k ++ [nth zs k] := by
  rw [List.take_succ_eq_append_getElem h, nth_lt h]
theorem nth_take {zs : List Int} {k m : Nat} (h : k < m) : nth (zs.take m) k = nth zs k := by
  simp [nth, h]
theorem nth_drop {zs : List Int} {k m : Nat} : nth (zs.drop m) k = nth zs (m + k) := by
  simp [nth, List.getElem?_drop]

/-- A slice of n numbers reads as the list zs. -/
structure Rd (w : World) (ao : Option Addr) (n : Nat) (zs : List Int) : Prop where
  len : zs.length = n
  room : n * 8 ≤ 140737488351232
  num : ∀ k, k < n → -9223372036854775808 ≤ nth zs k ∧ nth zs k ≤ 9223372036854775807
  cells : 0 < n → ∃ b off, ao = some ⟨b, off, none⟩ ∧ b < w.heap.size ∧ ∀ k, k < n → w.cell? ⟨b, off + k, none⟩ = some (.int .i64 (nth zs k))

theorem Rd.below {B : Nat} {w w' : World} {ao : Option Addr} {n : Nat} {zs : List Int} (h : Rd w ao n zs) (hb : Below B w w') (hB : w.heap.size ≤ B) : Rd w' ao n zs := by
  refine ⟨h.len, h.room, h.num, fun h0 => ?_⟩
  obtain ⟨b, off, e, hl, hc⟩ := h.cells h0
  refine ⟨b, off, e, Nat.lt_of_lt_of_le hl hb.size, fun k hk => ?_⟩
  rw [hb.cell (p := ⟨b, off + k, none⟩) (Nat.lt_of_lt_of_le hl hB)]
  exact hc k hk

theorem Rd.drewN {w : World} {ao : Option Addr} {n : Nat} {zs : List Int} (h : Rd w ao n zs) (m : Nat) : Rd (w.drewN m) ao n zs := by
  refine ⟨h.len, h.room, h.num, fun h0 => ?_⟩
  obtain ⟨b, off, e, hl, hc⟩ := h.cells h0
  exact ⟨b, off, e, by simpa using hl, fun k hk => by simpa using hc k hk⟩

theorem Rd.alloc {w : World} {ao : Option Addr} {n : Nat} {zs : List Int} (h : Rd w ao n zs) (o : Obj) : Rd (w.alloc o) ao n zs :=
  h.below ((Below.refl _ _).alloc (Nat.le_refl _) _) (Nat.le_refl _)

theorem Rd.nil (w : World) : Rd w none 0 [] := ⟨rfl, by omega, fun k hk => by omega, fun h => by omega⟩
theorem Rd.empty (w : World) (ao : Option Addr) : Rd w ao 0 [] := ⟨rfl, by omega, fun k hk => by omega, fun h => by omega⟩

/-- A slice of a call's own: its cells are new, from block B on. -/
structure Fr (w : World) (B : Nat) (ao : Option Addr) (n cap : Nat) (zs : List Int) : Prop where
  rd : Rd w ao n zs
  own : w.ownsRow B 3 1 (.slice ao n cap) n (zs.map (Value.int .i64))

theorem Fr.mk' {w : World} {B : Nat} {v : Value} {n : Nat} {zs : List Int} (hl : zs.length = n) (hr : n * 8 ≤ 140737488351232) (hn : ∀ k, k < n → -9223372036854775808 ≤ nth zs k ∧ nth zs k ≤ 9223372036854775807)
    (h : w.ownsRow B 3 1 v n (zs.map (Value.int .i64))) : ∃ ao cap, v = .slice ao n cap ∧ Fr w B ao n cap zs := by
  have h' := h
  rcases h.2 with ⟨rfl, h0⟩ | ⟨g, cap, cur, rfl, hb, hg, hnc, hcm, hcs, ht⟩
  · subst h0
    exact ⟨none, 0, rfl, ⟨hl, hr, hn, fun h => by omega⟩, h⟩
  · refine ⟨_, cap, rfl, ⟨hl, hr, hn, fun _ => ⟨g, 0, rfl, (Array.getElem?_eq_some_iff.1 hg).1, fun k hk => ?_⟩⟩, h⟩
    have := h'.cells (g := g) rfl k _ (nth_map (by omega))
    have e : (⟨g, 0, none⟩ : Addr).add k = ⟨g, 0 + k, none⟩ := by cases k <;> simp [Addr.add]
    rwa [e] at this

theorem Fr.nil (w : World) (B : Nat) : Fr w B none 0 0 [] := ⟨Rd.nil w, World.ownsRow_nil _ _ _ _⟩

theorem Fr.mono {w : World} {B B' : Nat} {ao : Option Addr} {n cap : Nat} {zs : List Int} (h : Fr w B ao n cap zs) (hb : B' ≤ B) : Fr w B' ao n cap zs := by
  refine ⟨h.rd, h.own.1, ?_⟩
  rcases h.own.2 with h0 | ⟨g, c, cur, e, hB, r⟩
  · exact .inl h0
  · exact .inr ⟨g, c, cur, e, Nat.le_trans hb hB, r⟩

theorem Fr.below {B B' : Nat} {w w' : World} {ao : Option Addr} {n cap : Nat} {zs : List Int} (h : Fr w B ao n cap zs) (hb : Below B' w w') (hB : w.heap.size ≤ B') : Fr w' B ao n cap zs := by
  refine ⟨h.rd.below hb hB, h.own.1, ?_⟩
  rcases h.own.2 with h0 | ⟨g, c, cur, e, hB2, hg, r⟩
  · exact .inl h0
  · exact .inr ⟨g, c, cur, e, hB2, by rw [hb.block g (Nat.lt_of_lt_of_le (Array.getElem?_eq_some_iff.1 hg).1 hB)]; exact hg, r⟩

theorem ret_int {k : IntKind} {a b : Int} (h : a = b) : Ending.returned (.int k a) = .returned (.int k b) := by rw [h]
theorem ret_bool {a b : Bool} (h : a = b) : Ending.returned (.bool a) = .returned (.bool b) := by rw [h]
theorem ret_two {k l : IntKind} {a b c d : Int} (h : a = b) (g : c = d) : Ending.returned (.tuple #[.int k a, .int l c]) = .returned (.tuple #[.int k b, .int l d]) := by rw [h, g]

/-- The product of the lengths that are not 0. -/
def pz (zs : List Int) : Int := zs.foldl (fun p z => if z = 0 then p else p * z) 1
/-- The product of all lengths. -/
def pr (zs : List Int) : Int := zs.foldl (fun p z => p * z) 1
/-- The answer of May. -/
def mayF (zs : List Int) : Int := if zs.any (fun z => decide (z < 0)) then 1 else if 8 < zs.length then 17 else if 4096 < pz zs then 17 else 0

theorem pz_snoc (l : List Int) (z : Int) : pz (l ++ [z]) = if z = 0 then pz l else pz l * z := by simp [pz, List.foldl_append]
theorem pr_snoc (l : List Int) (z : Int) : pr (l ++ [z]) = pr l * z := by simp [pr, List.foldl_append]
theorem pz_pos {l : List Int} : ∀ m, m ≤ l.length → (∀ k, k < m → 0 ≤ nth l k) → 1 ≤ pz (l.take m)
  | 0, _, _ => by simp [pz]
  | m + 1, hm, h => by
    rw [take_nth (by omega), pz_snoc]
    have ih := pz_pos (l := l) m (by omega) (fun k hk => h k (by omega))
    have hz := h m (by omega)
    split
    · exact ih
    · have : 1 ≤ nth l m := by omega
      have := Int.mul_le_mul ih this (by omega) (by omega)
      omega

theorem pz_up {l : List Int} {i : Nat} : ∀ m, i ≤ m → m ≤ l.length → (∀ k, k < m → 0 ≤ nth l k) → pz (l.take i) ≤ pz (l.take m)
  | 0, hi, _, _ => by obtain rfl : i = 0 := by omega
                      exact Int.le_refl _
  | m + 1, hi, hm, h => by
    by_cases e : i = m + 1
    · rw [e]; exact Int.le_refl _
    · have ih := pz_up (l := l) (i := i) m (by omega) (by omega) (fun k hk => h k (by omega))
      rw [take_nth (k := m) (by omega), pz_snoc]
      have hz := h m (by omega)
      have hp := pz_pos (l := l) m (by omega) (fun k hk => h k (by omega))
      split
      · exact ih
      · have : 1 ≤ nth l m := by omega
        have := Int.mul_le_mul_of_nonneg_left this (show 0 ≤ pz (l.take m) by omega)
        omega

theorem mayF_neg {zs : List Int} {k : Nat} (h : k < zs.length) (hz : nth zs k < 0) : mayF zs = 1 := by
  unfold mayF
  rw [if_pos]
  simp only [List.any_eq_true, decide_eq_true_eq]
  exact ⟨_, nth_mem h, hz⟩
theorem any_no {zs : List Int} (h : ∀ k, k < zs.length → 0 ≤ nth zs k) : (zs.any fun z => decide (z < 0)) = false := by
  simp only [List.any_eq_false, decide_eq_true_eq]
  intro x hx
  obtain ⟨i, hi, rfl⟩ := List.mem_iff_getElem.1 hx
  have := h i hi
  rw [nth_lt hi] at this
  omega
theorem mayF_long {zs : List Int} (h : ∀ k, k < zs.length → 0 ≤ nth zs k) (hl : 8 < zs.length) : mayF zs = 17 := by
  unfold mayF; rw [any_no h, if_pos hl]; rfl
theorem mayF_great {zs : List Int} {m : Nat} (h : ∀ k, k < zs.length → 0 ≤ nth zs k) (hm : m ≤ zs.length) (hp : 4096 < pz (zs.take m)) : mayF zs = 17 := by
  have := pz_up (l := zs) (i := m) zs.length hm (Nat.le_refl _) h
  rw [List.take_length] at this
  unfold mayF; rw [any_no h]
  simp only [Bool.false_eq_true, if_false]
  split
  · rfl
  · rw [if_pos (by omega)]
theorem mayF_ok {zs : List Int} (h : ∀ k, k < zs.length → 0 ≤ nth zs k) (hl : zs.length ≤ 8) (hp : pz zs ≤ 4096) : mayF zs = 0 := by
  unfold mayF; rw [any_no h, if_neg (by simp), if_neg (by omega), if_neg (by omega)]
theorem mayF_zero {zs : List Int} (h : mayF zs = 0) : (∀ k, k < zs.length → 0 ≤ nth zs k) ∧ zs.length ≤ 8 ∧ pz zs ≤ 4096 := by
  unfold mayF at h
  split at h
  · omega
  · rename_i h1
    split at h
    · omega
    · split at h
      · omega
      · refine ⟨fun k hk => ?_, by omega, by omega⟩
        by_cases hz : nth zs k < 0
        · exact absurd (by simp only [List.any_eq_true, decide_eq_true_eq]; exact ⟨_, nth_mem hk, hz⟩) h1
        · omega
end Go.Proofs.Ytdeglhifemmknaa
