
/- Terms as they are read: trees by depth. -/

import Derived.Test.YtiahilelcppfgaaGreatA4

namespace Go.Proofs.YtiahilelcppfgaaGreat

open Go.RowKit

set_option linter.unusedVariables false

/-- What a node says of itself. -/
structure Nd where
  k : Int
  t : ByteArray
  n : Int
  sh : List Int
  at' : List Int
/-- Terms of at most so many levels. -/
def Tr : Nat → Type
  | 0 => Empty
  | d + 1 => Nd × List (Tr d)
def Tr.nd {d : Nat} (x : Tr (d + 1)) : Nd := Prod.fst (α := Nd) (β := List (Tr d)) x
def Tr.ks {d : Nat} (x : Tr (d + 1)) : List (Tr d) := Prod.snd (α := Nd) (β := List (Tr d)) x
def Tr.mk {d : Nat} (a : Nd) (l : List (Tr d)) : Tr (d + 1) := (a, l)
/-- All together; the greatest; do all hold? -/
def psum (f : Nat → Nat) : Nat → Nat
  | 0 => 0
  | k + 1 => psum f k + f k
def pmax (f : Nat → Nat) : Nat → Nat
  | 0 => 0
  | k + 1 => max (pmax f k) (f k)
def pall (f : Nat → Bool) : Nat → Bool
  | 0 => true
  | k + 1 => pall f k && f k
theorem psum_le (f : Nat → Nat) {i m : Nat} (h : i ≤ m) : psum f i ≤ psum f m := by
  induction m with
  | zero => obtain rfl : i = 0 := by omega
            exact Nat.le_refl _
  | succ m ih =>
    by_cases e : i = m + 1
    · subst e; exact Nat.le_refl _
    · have := ih (by omega)
      simp only [psum]; omega
theorem pmax_le (f : Nat → Nat) {i m : Nat} (h : i ≤ m) : pmax f i ≤ pmax f m := by
  induction m with
  | zero => obtain rfl : i = 0 := by omega
            exact Nat.le_refl _
  | succ m ih =>
    by_cases e : i = m + 1
    · subst e; exact Nat.le_refl _
    · have := ih (by omega)
      simp only [pmax]; omega
theorem pall_iff (f : Nat → Bool) : ∀ m, pall f m = true ↔ ∀ i, i < m → f i = true
  | 0 => by simp [pall]
  | m + 1 => by
    simp only [pall, Bool.and_eq_true, pall_iff f m]
    constructor
    · rintro ⟨a, b⟩ i hi
      by_cases e : i = m
      · rw [e]; exact b
      · exact a i (by omega)
    · intro h
      exact ⟨fun i hi => h i (by omega), h m (by omega)⟩
theorem pall_no {f : Nat → Bool} {m i : Nat} (hi : i < m) (h : f i = false) : pall f m = false := by
  cases e : pall f m
  · rfl
  · rw [(pall_iff f m).1 e i hi] at h; cases h
/-- Nodes; levels. -/
def nds : (d : Nat) → Tr d → Nat
  | 0, _ => 0
  | d + 1, x => 1 + psum (fun i => (x.ks[i]?).elim 0 (nds d)) x.ks.length
def dep : (d : Nat) → Tr d → Nat
  | 0, _ => 0
  | d + 1, x => 1 + pmax (fun i => (x.ks[i]?).elim 0 (dep d)) x.ks.length
/-- The topmost node. -/
def root : (d : Nat) → Tr d → Nd
  | 0, x => nomatch x
  | d + 1, x => x.nd

/-- A list of elements of six cells reads as such things as P tells. -/
structure Kq {α : Type} (P : α → List Value → Prop) (W : World) (ko : Option Addr) (ks : List α) : Prop where
  room : ks.length * 104 ≤ 140737488351232
  cells : 0 < ks.length → ∃ b off, ko = some ⟨b, off, none⟩ ∧ b < W.heap.size ∧ ∀ i y, ks[i]? = some y → ∃ c0 c1 c2 c3 c4 c5, P y [c0, c1, c2, c3, c4, c5] ∧ W.cell? ⟨b, off + i * 6, none⟩ = some c0 ∧ W.cell? ⟨b, off + i * 6 + 1, none⟩ = some c1 ∧ W.cell? ⟨b, off + i * 6 + 2, none⟩ = some c2 ∧ W.cell? ⟨b, off + i * 6 + 3, none⟩ = some c3 ∧ W.cell? ⟨b, off + i * 6 + 4, none⟩ = some c4 ∧ W.cell? ⟨b, off + i * 6 + 5, none⟩ = some c5
/-- A node that is read. -/
structure Nv {α : Type} (P : α → List Value → Prop) (W : World) (x : Nd) (ks : List α) (v : List Value) : Prop where
  val : ∃ so sn sc ao an ac ko kc, v = [.int .i64 x.k, .string x.t, .int .i64 x.n, .slice so sn sc, .slice ao an ac, .slice ko ks.length kc] ∧ Rd W so sn x.sh ∧ Sl so sn sc ∧ Rd W ao an x.at' ∧ Sl ao an ac ∧ Kq P W ko ks ∧ Sl ko ks.length kc
  kb : -9223372036854775808 ≤ x.k ∧ x.k ≤ 9223372036854775807
  nb : -9223372036854775808 ≤ x.n ∧ x.n ≤ 9223372036854775807
  tb : x.t.size ≤ 140737488355328
/-- A term that is read. -/
def Tv (W : World) : (d : Nat) → Tr d → List Value → Prop
  | 0, _, _ => False
  | d + 1, x, v => Nv (Tv W d) W x.nd x.ks v
theorem Kq.below {α : Type} {P Q : α → List Value → Prop} {B : Nat} {W V : World} {ko : Option Addr} {ks : List α} (h : Kq P W ko ks) (hb : Below B W V) (hB : W.heap.size ≤ B) (hP : ∀ y v, P y v → Q y v) : Kq Q V ko ks := by
  refine ⟨h.room, fun h0 => ?_⟩
  obtain ⟨b, off, e, hl, hc⟩ := h.cells h0
  refine ⟨b, off, e, Nat.lt_of_lt_of_le hl hb.size, fun i y hy => ?_⟩
  obtain ⟨c0, c1, c2, c3, c4, c5, hp, h0, h1, h2, h3, h4, h5⟩ := hc i y hy
  have hlt := Nat.lt_of_lt_of_le hl hB
  exact ⟨c0, c1, c2, c3, c4, c5, hP _ _ hp, (hb.cell (p := ⟨b, off + i * 6, none⟩) hlt).trans h0, (hb.cell (p := ⟨b, off + i * 6 + 1, none⟩) hlt).trans h1, (hb.cell (p := ⟨b, off + i * 6 + 2, none⟩) hlt).trans h2, (hb.cell (p := ⟨b, off + i * 6 + 3, none⟩) hlt).trans h3, (hb.cell (p := ⟨b, off + i * 6 + 4, none⟩) hlt).trans h4, (hb.cell (p := ⟨b, off + i * 6 + 5, none⟩) hlt).trans h5⟩
theorem Tv.below {B : Nat} {W V : World} (hb : Below B W V) (hB : W.heap.size ≤ B) : ∀ (d : Nat) (x : Tr d) (v : List Value), Tv W d x v → Tv V d x v
  | 0, _, _, h => h
  | d + 1, x, v, h => by
    obtain ⟨⟨so, sn, sc, ao, an, ac, ko, kc, e, h1, h2, h3, h4, h5, h6⟩, hk, hn, ht⟩ := h
    exact ⟨⟨so, sn, sc, ao, an, ac, ko, kc, e, h1.below hb hB, h2, h3.below hb hB, h4, h5.below hb hB (Tv.below hb hB d), h6⟩, hk, hn, ht⟩
theorem Tv.form {W : World} : ∀ {d : Nat} {x : Tr d} {v : List Value}, Tv W d x v → ∃ k t n so sn sc ao an ac ko kn kc, v = [.int .i64 k, .string t, .int .i64 n, .slice so sn sc, .slice ao an ac, .slice ko kn kc]
  | 0, _, _, h => h.elim
  | d + 1, x, v, h => by
    obtain ⟨⟨so, sn, sc, ao, an, ac, ko, kc, e, _⟩, _⟩ := h
    exact ⟨_, _, _, so, sn, sc, ao, an, ac, ko, _, kc, e⟩
end Go.Proofs.YtiahilelcppfgaaGreat
