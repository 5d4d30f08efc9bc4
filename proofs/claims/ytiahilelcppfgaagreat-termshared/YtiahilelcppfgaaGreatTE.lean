
/- Package term: what is asked of a kid alone. -/

import Derived.Test.YtiahilelcppfgaaGreatA4

import Derived.Test.YtiahilelcppfgaaGreatA2

namespace Go.Proofs.YtiahilelcppfgaaGreat

open Go.RowKit

set_option linter.unusedVariables false

/-- What a node says of itself. -/
structure Nd where
  k : Int
  t : ByteArray
  n : Int
  sh : List Int
  at' : List Int
/-- Terms of at most so many levels. -/
def Tr : Nat → Type
  | 0 => Empty
  | d + 1 => Nd × List (Tr d)
def Tr.nd {d : Nat} (x : Tr (d + 1)) : Nd := Prod.fst (α := Nd) (β := List (Tr d)) x
def Tr.ks {d : Nat} (x : Tr (d + 1)) : List (Tr d) := Prod.snd (α := Nd) (β := List (Tr d)) x
def Tr.mk {d : Nat} (a : Nd) (l : List (Tr d)) : Tr (d + 1) := (a, l)
/-- All together; the greatest; do all hold? -/
def psum (f : Nat → Nat) : Nat → Nat
  | 0 => 0
  | k + 1 => psum f k + f k
def pmax (f : Nat → Nat) : Nat → Nat
  | 0 => 0
  | k + 1 => max (pmax f k) (f k)
def pall (f : Nat → Bool) : Nat → Bool
  | 0 => true
  | k + 1 => pall f k && f k
theorem psum_le (f : Nat → Nat) {i m : Nat} (h : i ≤ m) : psum f i ≤ psum f m := by
  induction m with
  | zero => obtain rfl : i = 0 := by omega
            exact Nat.le_refl _
  | succ m ih =>
    by_cases e : i = m + 1
    · subst e; exact Nat.le_refl _
    · have := ih (by omega)
      simp only [psum]; omega
theorem pmax_le (f : Nat → Nat) {i m : Nat} (h : i ≤ m) : pmax f i ≤ pmax f m := by
  induction m with
  | zero => obtain rfl : i = 0 := by omega
            exact Nat.le_refl _
  | succ m ih =>
    by_cases e : i = m + 1
    · subst e; exact Nat.le_refl _
    · have := ih (by omega)
      simp only [pmax]; omega
theorem pall_iff (f : Nat → Bool) : ∀ m, pall f m = true ↔ ∀ i, i < m → f i = true
  | 0 => by simp [pall]
  | m + 1 => by
    simp only [pall, Bool.and_eq_true, pall_iff f m]
    constructor
    · rintro ⟨a, b⟩ i hi
      by_cases e : i = m
      · rw [e]; exact b
      · exact a i (by omega)
    · intro h
      exact ⟨fun i hi => h i (by omega), h m (by omega)⟩
theorem pall_no {f : Nat → Bool} {m i : Nat} (hi : i < m) (h : f i = false) : pall f m = false := by
  cases e : pall f m
  · rfl
  · rw [(pall_iff f m).1 e i hi] at h; cases h
/-- Nodes; levels. -/
def nds : (d : Nat) → Tr d → Nat
  | 0, _ => 0
  | d + 1, x => 1 + psum (fun i => (x.ks[i]?).elim 0 (nds d)) x.ks.length
def dep : (d : Nat) → Tr d → Nat
  | 0, _ => 0
  | d + 1, x => 1 + pmax (fun i => (x.ks[i]?).elim 0 (dep d)) x.ks.length
/-- The topmost node. -/
def root : (d : Nat) → Tr d → Nd
  | 0, x => nomatch x
  | d + 1, x => x.nd

/-- A list of elements of six cells reads as such things as P tells. -/
structure Kq {α : Type} (P : α → List Value → Prop) (W : World) (ko : Option Addr) (ks : List α) : Prop where
  room : ks.length * 104 ≤ 140737488351232
  cells : 0 < ks.length → ∃ b off, ko = some ⟨b, off, none⟩ ∧ b < W.heap.size ∧ ∀ i y, ks[i]? = some y → ∃ c0 c1 c2 c3 c4 c5, P y [c0, c1, c2, c3, c4, c5] ∧ W.cell? ⟨b, off + i * 6, none⟩ = some c0 ∧ W.cell? ⟨b, off + i * 6 + 1, none⟩ = some c1 ∧ W.cell? ⟨b, off + i * 6 + 2, none⟩ = some c2 ∧ W.cell? ⟨b, off + i * 6 + 3, none⟩ = some c3 ∧ W.cell? ⟨b, off + i * 6 + 4, none⟩ = some c4 ∧ W.cell? ⟨b, off + i * 6 + 5, none⟩ = some c5
/-- A node that is read. -/
structure Nv {α : Type} (P : α → List Value → Prop) (W : World) (x : Nd) (ks : List α) (v : List Value) : Prop where
  val : ∃ so sn sc ao an ac ko kc, v = [.int .i64 x.k, .string x.t, .int .i64 x.n, .slice so sn sc, .slice ao an ac, .slice ko ks.length kc] ∧ Rd W so sn x.sh ∧ Sl so sn sc ∧ Rd W ao an x.at' ∧ Sl ao an ac ∧ Kq P W ko ks ∧ Sl ko ks.length kc
  kb : -9223372036854775808 ≤ x.k ∧ x.k ≤ 9223372036854775807
  nb : -9223372036854775808 ≤ x.n ∧ x.n ≤ 9223372036854775807
  tb : x.t.size ≤ 140737488355328
/-- A term that is read. -/
def Tv (W : World) : (d : Nat) → Tr d → List Value → Prop
  | 0, _, _ => False
  | d + 1, x, v => Nv (Tv W d) W x.nd x.ks v
theorem Kq.below {α : Type} {P Q : α → List Value → Prop} {B : Nat} {W V : World} {ko : Option Addr} {ks : List α} (h : Kq P W ko ks) (hb : Below B W V) (hB : W.heap.size ≤ B) (hP : ∀ y v, P y v → Q y v) : Kq Q V ko ks := by
  refine ⟨h.room, fun h0 => ?_⟩
  obtain ⟨b, off, e, hl, hc⟩ := h.cells h0
  refine ⟨b, off, e, Nat.lt_of_lt_of_le hl hb.size, fun i y hy => ?_⟩
  obtain ⟨c0, c1, c2, c3, c4, c5, hp, h0, h1, h2, h3, h4, h5⟩ := hc i y hy
  have hlt := Nat.lt_of_lt_of_le hl hB
  exact ⟨c0, c1, c2, c3, c4, c5, hP _ _ hp, (hb.cell (p := ⟨b, off + i * 6, none⟩) hlt).trans h0, (hb.cell (p := ⟨b, off + i * 6 + 1, none⟩) hlt).trans h1, (hb.cell (p := ⟨b, off + i * 6 + 2, none⟩) hlt).trans h2, (hb.cell (p := ⟨b, off + i * 6 + 3, none⟩) hlt).trans h3, (hb.cell (p := ⟨b, off + i * 6 + 4, none⟩) hlt).trans h4, (hb.cell (p := ⟨b, off + i * 6 + 5, none⟩) hlt).trans h5⟩
theorem Tv.below {B : Nat} {W V : World} (hb : Below B W V) (hB : W.heap.size ≤ B) : ∀ (d : Nat) (x : Tr d) (v : List Value), Tv W d x v → Tv V d x v
  | 0, _, _, h => h
  | d + 1, x, v, h => by
    obtain ⟨⟨so, sn, sc, ao, an, ac, ko, kc, e, h1, h2, h3, h4, h5, h6⟩, hk, hn, ht⟩ := h
    exact ⟨⟨so, sn, sc, ao, an, ac, ko, kc, e, h1.below hb hB, h2, h3.below hb hB, h4, h5.below hb hB (Tv.below hb hB d), h6⟩, hk, hn, ht⟩
theorem Tv.form {W : World} : ∀ {d : Nat} {x : Tr d} {v : List Value}, Tv W d x v → ∃ k t n so sn sc ao an ac ko kn kc, v = [.int .i64 k, .string t, .int .i64 n, .slice so sn sc, .slice ao an ac, .slice ko kn kc]
  | 0, _, _, h => h.elim
  | d + 1, x, v, h => by
    obtain ⟨⟨so, sn, sc, ao, an, ac, ko, kc, e, _⟩, _⟩ := h
    exact ⟨_, _, _, so, sn, sc, ao, an, ac, ko, _, kc, e⟩
end Go.Proofs.YtiahilelcppfgaaGreat

namespace Go.Proofs.YtiahilelcppfgaaGreat

open Go.RowKit

set_option linter.unusedVariables false

theorem wrT {z : Int} (h : -9223372036854775808 ≤ z) (g : z ≤ 9223372036854775807) : IntKind.i64.wrap z = z := by rw [IntKind.wrap_i64]; omega
theorem box6 {W : World} {g : Nat} {c0 c1 c2 c3 c4 c5 : Value} {t : TypeId} (h : W.heap[g]? = some (.cells #[c0, c1, c2, c3, c4, c5] t (0, 0))) :
    W.cell? ⟨g, 0, none⟩ = some c0 ∧ W.cell? ⟨g, 1, none⟩ = some c1 ∧ W.cell? ⟨g, 2, none⟩ = some c2 ∧ W.cell? ⟨g, 3, none⟩ = some c3 ∧ W.cell? ⟨g, 4, none⟩ = some c4 ∧ W.cell? ⟨g, 5, none⟩ = some c5 :=
  ⟨(cell_of_row W g 0 _ t (0, 0) h).trans rfl, (cell_of_row W g 1 _ t (0, 0) h).trans rfl, (cell_of_row W g 2 _ t (0, 0) h).trans rfl, (cell_of_row W g 3 _ t (0, 0) h).trans rfl, (cell_of_row W g 4 _ t (0, 0) h).trans rfl, (cell_of_row W g 5 _ t (0, 0) h).trans rfl⟩

/-- A term's class, by its kind. -/
def clsN (k : Int) : Int := if 1 ≤ k ∧ k ≤ 5 then 1 else if 10 ≤ k ∧ k ≤ 14 then 2 else if 20 ≤ k ∧ k ≤ 46 then 3 else 0
theorem clsN_1 {k : Int} (h : 1 ≤ k) (g : k ≤ 5) : clsN k = 1 := by unfold clsN; rw [if_pos ⟨h, g⟩]
theorem clsN_2 {k : Int} (h : 10 ≤ k) (g : k ≤ 14) : clsN k = 2 := by unfold clsN; rw [if_neg (by omega), if_pos ⟨h, g⟩]
theorem clsN_3 {k : Int} (h : 20 ≤ k) (g : k ≤ 46) : clsN k = 3 := by unfold clsN; rw [if_neg (by omega), if_neg (by omega), if_pos ⟨h, g⟩]
theorem clsN_0 {k : Int} (h : ¬ (1 ≤ k ∧ k ≤ 5)) (g : ¬ (10 ≤ k ∧ k ≤ 14)) (i : ¬ (20 ≤ k ∧ k ≤ 46)) : clsN k = 0 := by unfold clsN; rw [if_neg h, if_neg g, if_neg i]
set_option maxHeartbeats 2000000 in
theorem class_any (k n : Int) (t : ByteArray) (v3 v4 v5 : Value) (w : World) :
    Calls Tryz.prog 11 #[.agg #[.int .i64 k, .string t, .int .i64 n, v3, v4, v5]] w fun e w' => e = .returned (.int .i64 (clsN k)) ∧ Below w.heap.size w w' := by
  have k0 := box_below w (.cells #[.int .i64 k, .string t, .int .i64 n, v3, v4, v5] 31)
  obtain ⟨b0, b1, b2, _, _, _⟩ := box6 (allocNew w (.cells #[.int .i64 k, .string t, .int .i64 n, v3, v4, v5] 31))
  by_cases h0 : k ≤ 0
  · have x0 : decide (1 ≤ k) = false := by simp; omega
    have y0 : decide (k ≤ 5) = true := by simp; omega
    have x1 : decide (10 ≤ k) = false := by simp; omega
    have y1 : decide (k ≤ 14) = true := by simp; omega
    have x2 : decide (20 ≤ k) = false := by simp; omega
    have y2 : decide (k ≤ 46) = true := by simp; omega
    go_enter Tryz.func11, Tryz.ntmps11
    go_wp2
    go_ret
    exact ⟨ret_int (clsN_0 (by omega) (by omega) (by omega)).symm, k0⟩
  by_cases h1 : k ≤ 5
  · have x0 : decide (1 ≤ k) = true := by simp; omega
    have y0 : decide (k ≤ 5) = true := by simp; omega
    have x1 : decide (10 ≤ k) = false := by simp; omega
    have y1 : decide (k ≤ 14) = true := by simp; omega
    have x2 : decide (20 ≤ k) = false := by simp; omega
    have y2 : decide (k ≤ 46) = true := by simp; omega
    go_enter Tryz.func11, Tryz.ntmps11
    go_wp2
    go_ret
    exact ⟨ret_int (clsN_1 (by omega) (by omega)).symm, k0⟩
  by_cases h2 : k ≤ 9
  · have x0 : decide (1 ≤ k) = true := by simp; omega
    have y0 : decide (k ≤ 5) = false := by simp; omega
    have x1 : decide (10 ≤ k) = false := by simp; omega
    have y1 : decide (k ≤ 14) = true := by simp; omega
    have x2 : decide (20 ≤ k) = false := by simp; omega
    have y2 : decide (k ≤ 46) = true := by simp; omega
    go_enter Tryz.func11, Tryz.ntmps11
    go_wp2
    go_ret
    exact ⟨ret_int (clsN_0 (by omega) (by omega) (by omega)).symm, k0⟩
  by_cases h3 : k ≤ 14
  · have x0 : decide (1 ≤ k) = true := by simp; omega
    have y0 : decide (k ≤ 5) = false := by simp; omega
    have x1 : decide (10 ≤ k) = true := by simp; omega
    have y1 : decide (k ≤ 14) = true := by simp; omega
    have x2 : decide (20 ≤ k) = false := by simp; omega
    have y2 : decide (k ≤ 46) = true := by simp; omega
    go_enter Tryz.func11, Tryz.ntmps11
    go_wp2
    go_ret
    exact ⟨ret_int (clsN_2 (by omega) (by omega)).symm, k0⟩
  by_cases h4 : k ≤ 19
  · have x0 : decide (1 ≤ k) = true := by simp; omega
    have y0 : decide (k ≤ 5) = false := by simp; omega
    have x1 : decide (10 ≤ k) = true := by simp; omega
    have y1 : decide (k ≤ 14) = false := by simp; omega
    have x2 : decide (20 ≤ k) = false := by simp; omega
    have y2 : decide (k ≤ 46) = true := by simp; omega
    go_enter Tryz.func11, Tryz.ntmps11
    go_wp2
    go_ret
    exact ⟨ret_int (clsN_0 (by omega) (by omega) (by omega)).symm, k0⟩
  by_cases h5 : k ≤ 46
  · have x0 : decide (1 ≤ k) = true := by simp; omega
    have y0 : decide (k ≤ 5) = false := by simp; omega
    have x1 : decide (10 ≤ k) = true := by simp; omega
    have y1 : decide (k ≤ 14) = false := by simp; omega
    have x2 : decide (20 ≤ k) = true := by simp; omega
    have y2 : decide (k ≤ 46) = true := by simp; omega
    go_enter Tryz.func11, Tryz.ntmps11
    go_wp2
    go_ret
    exact ⟨ret_int (clsN_3 (by omega) (by omega)).symm, k0⟩
  have x0 : decide (1 ≤ k) = true := by simp; omega
  have y0 : decide (k ≤ 5) = false := by simp; omega
  have x1 : decide (10 ≤ k) = true := by simp; omega
  have y1 : decide (k ≤ 14) = false := by simp; omega
  have x2 : decide (20 ≤ k) = true := by simp; omega
  have y2 : decide (k ≤ 46) = false := by simp; omega
  go_enter Tryz.func11, Tryz.ntmps11
  go_wp2
  go_ret
  exact ⟨ret_int (clsN_0 (by omega) (by omega) (by omega)).symm, k0⟩
end Go.Proofs.YtiahilelcppfgaaGreat

namespace Go.Proofs.YtiahilelcppfgaaGreat

open Go.RowKit

set_option linter.unusedVariables false

/-- What is asked of a kid: 1 a noun, 2 a verb, 3 a body, 4 a sentence of a body, 5 (or any other number) an operand. -/
def askB (p : Nat) (k : Int) (t : ByteArray) : Bool :=
  if p = 1 then decide (clsN k = 1) else if p = 2 then decide (clsN k = 3) else if p = 3 then decide (k = 14) else if p = 4 then decide (clsN k = 2) && !decide (k = 14)
  else decide (k = 1) || (decide (k = 2) && (!(t.toList == [120]) && !(t.toList == [121])))
/-- Is it a node that names x? -/
def spk (k : Int) (t : ByteArray) : Bool := (decide (k = 2) || decide (k = 11)) && (t.toList == [120])
set_option maxHeartbeats 1000000 in
theorem isNoun_any (k n : Int) (t : ByteArray) (so ao ko : Option Addr) (sn sc an ac kn kc : Nat) (w : World) :
    Calls Tryz.prog 87 #[.agg #[.int .i64 k, .string t, .int .i64 n, .slice so sn sc, .slice ao an ac, .slice ko kn kc]] w fun e w' => e = .returned (.bool (askB 1 k t)) ∧ Below w.heap.size w w' := by
  have k0 := box_below w (.cells #[.int .i64 k, .string t, .int .i64 n, .slice so sn sc, .slice ao an ac, .slice ko kn kc] 31)
  obtain ⟨b0, b1, b2, b3, b4, b5⟩ := box6 (allocNew w (.cells #[.int .i64 k, .string t, .int .i64 n, .slice so sn sc, .slice ao an ac, .slice ko kn kc] 31))
  have hc := fun W => class_any k n t (.slice so sn sc) (.slice ao an ac) (.slice ko kn kc) W
  have hA : Hid (askB 1 k t = decide (clsN k = 1)) := rfl
  generalize clsN k = C at *
  go_enter Tryz.func87, Tryz.ntmps87
  go_wp2_with (go_at_call 11; (with_reducible refine (hc _).mono ?_); rintro e w6 ⟨rfl, b6⟩)
  go_ret
  exact ⟨ret_bool (by rw [hA.out]; rfl), k0.trans (b6.mono k0.size)⟩
set_option maxHeartbeats 1000000 in
theorem isVerb_any (k n : Int) (t : ByteArray) (so ao ko : Option Addr) (sn sc an ac kn kc : Nat) (w : World) :
    Calls Tryz.prog 86 #[.agg #[.int .i64 k, .string t, .int .i64 n, .slice so sn sc, .slice ao an ac, .slice ko kn kc]] w fun e w' => e = .returned (.bool (askB 2 k t)) ∧ Below w.heap.size w w' := by
  have k0 := box_below w (.cells #[.int .i64 k, .string t, .int .i64 n, .slice so sn sc, .slice ao an ac, .slice ko kn kc] 31)
  obtain ⟨b0, b1, b2, b3, b4, b5⟩ := box6 (allocNew w (.cells #[.int .i64 k, .string t, .int .i64 n, .slice so sn sc, .slice ao an ac, .slice ko kn kc] 31))
  have hc := fun W => class_any k n t (.slice so sn sc) (.slice ao an ac) (.slice ko kn kc) W
  have hA : Hid (askB 2 k t = decide (clsN k = 3)) := rfl
  generalize clsN k = C at *
  go_enter Tryz.func86, Tryz.ntmps86
  go_wp2_with (go_at_call 11; (with_reducible refine (hc _).mono ?_); rintro e w6 ⟨rfl, b6⟩)
  go_ret
  exact ⟨ret_bool (by rw [hA.out]; rfl), k0.trans (b6.mono k0.size)⟩
set_option maxHeartbeats 1000000 in
theorem isBody_any (k n : Int) (t : ByteArray) (so ao ko : Option Addr) (sn sc an ac kn kc : Nat) (w : World) :
    Calls Tryz.prog 89 #[.agg #[.int .i64 k, .string t, .int .i64 n, .slice so sn sc, .slice ao an ac, .slice ko kn kc]] w fun e w' => e = .returned (.bool (askB 3 k t)) ∧ Below w.heap.size w w' := by
  have k0 := box_below w (.cells #[.int .i64 k, .string t, .int .i64 n, .slice so sn sc, .slice ao an ac, .slice ko kn kc] 31)
  obtain ⟨b0, b1, b2, b3, b4, b5⟩ := box6 (allocNew w (.cells #[.int .i64 k, .string t, .int .i64 n, .slice so sn sc, .slice ao an ac, .slice ko kn kc] 31))
  have hA : Hid (askB 3 k t = decide (k = 14)) := rfl
  go_enter Tryz.func89, Tryz.ntmps89
  go_wp2
  go_ret
  exact ⟨ret_bool (by rw [hA.out]; rfl), k0⟩
set_option maxHeartbeats 1000000 in
theorem isInBody_any (k n : Int) (t : ByteArray) (so ao ko : Option Addr) (sn sc an ac kn kc : Nat) (w : World) :
    Calls Tryz.prog 91 #[.agg #[.int .i64 k, .string t, .int .i64 n, .slice so sn sc, .slice ao an ac, .slice ko kn kc]] w fun e w' => e = .returned (.bool (askB 4 k t)) ∧ Below w.heap.size w w' := by
  have k0 := box_below w (.cells #[.int .i64 k, .string t, .int .i64 n, .slice so sn sc, .slice ao an ac, .slice ko kn kc] 31)
  obtain ⟨b0, b1, b2, b3, b4, b5⟩ := box6 (allocNew w (.cells #[.int .i64 k, .string t, .int .i64 n, .slice so sn sc, .slice ao an ac, .slice ko kn kc] 31))
  have hc := fun W => class_any k n t (.slice so sn sc) (.slice ao an ac) (.slice ko kn kc) W
  have hb := fun W => isBody_any k n t so ao ko sn sc an ac kn kc W
  have hA : askB 4 k t = (decide (clsN k = 2) && !decide (k = 14)) := rfl
  have hB : askB 3 k t = decide (k = 14) := rfl
  rw [hA]
  rw [hB] at hb
  clear hA hB
  generalize clsN k = C at *
  by_cases h2 : C = 2
  · have e2 : (C == 2) = true := by simp [h2]
    have d2 : decide (C = 2) = true := by simp [h2]
    rw [d2, Bool.true_and]
    clear h2 d2
    generalize decide (k = 14) = B at *
    go_enter Tryz.func91, Tryz.ntmps91
    go_wp2_with (first
      | (go_at_call 11; (with_reducible refine (hc _).mono ?_); rintro e w6 ⟨rfl, b6⟩; obtain ⟨q0, q1, q2, q3, q4, q5⟩ := box6 ((b6.block w.heap.size (by simp)).trans (allocNew w (.cells #[.int .i64 k, .string t, .int .i64 n, .slice so sn sc, .slice ao an ac, .slice ko kn kc] 31))))
      | (go_at_call 89; (with_reducible refine (hb _).mono ?_); rintro e w7 ⟨rfl, b7⟩))
    go_ret
    exact ⟨rfl, k0.trans ((b6.trans (b7.mono b6.size)).mono k0.size)⟩
  · have e2 : (C == 2) = false := by simp [h2]
    have d2 : decide (C = 2) = false := by simp [h2]
    rw [d2, Bool.false_and]
    clear h2 d2
    go_enter Tryz.func91, Tryz.ntmps91
    go_wp2_with (go_at_call 11; (with_reducible refine (hc _).mono ?_); rintro e w6 ⟨rfl, b6⟩)
    go_ret
    exact ⟨rfl, k0.trans (b6.mono k0.size)⟩
set_option maxHeartbeats 1000000 in
theorem isOperand_any (k n : Int) (t : ByteArray) (so ao ko : Option Addr) (sn sc an ac kn kc : Nat) (w : World) :
    Calls Tryz.prog 92 #[.agg #[.int .i64 k, .string t, .int .i64 n, .slice so sn sc, .slice ao an ac, .slice ko kn kc]] w fun e w' => e = .returned (.bool (askB 5 k t)) ∧ Below w.heap.size w w' := by
  have k0 := box_below w (.cells #[.int .i64 k, .string t, .int .i64 n, .slice so sn sc, .slice ao an ac, .slice ko kn kc] 31)
  obtain ⟨b0, b1, b2, b3, b4, b5⟩ := box6 (allocNew w (.cells #[.int .i64 k, .string t, .int .i64 n, .slice so sn sc, .slice ao an ac, .slice ko kn kc] 31))
  have hA : askB 5 k t = (decide (k = 1) || (decide (k = 2) && (!(t.toList == [120]) && !(t.toList == [121])))) := rfl
  by_cases h1 : k = 1
  · have e1 : (k == 1) = true := by simp [h1]
    have e2 : askB 5 k t = true := by rw [hA, h1]; rfl
    rw [e2]
    clear hA h1 e2
    go_enter Tryz.func92, Tryz.ntmps92
    go_wp2
    go_ret
    exact ⟨rfl, k0⟩
  have e1 : (k == 1) = false := by simp [h1]
  have d1 : decide (k = 1) = false := by simp [h1]
  rw [hA, d1, Bool.false_or]
  by_cases h2 : k = 2
  · have e2 : (k == 2) = true := by simp [h2]
    have d2 : decide (k = 2) = true := by simp [h2]
    rw [d2, Bool.true_and]
    clear hA h1 h2 d1 d2
    cases hx : t.toList == [120]
    · cases hy : t.toList == [121]
      · go_enter Tryz.func92, Tryz.ntmps92
        go_wp2
        go_ret
        exact ⟨rfl, k0⟩
      · go_enter Tryz.func92, Tryz.ntmps92
        go_wp2
        go_ret
        exact ⟨rfl, k0⟩
    · go_enter Tryz.func92, Tryz.ntmps92
      go_wp2
      go_ret
      exact ⟨rfl, k0⟩
  have e2 : (k == 2) = false := by simp [h2]
  have d2 : decide (k = 2) = false := by simp [h2]
  rw [d2, Bool.false_and]
  clear hA h1 h2 d1 d2
  go_enter Tryz.func92, Tryz.ntmps92
  go_wp2
  go_ret
  exact ⟨rfl, k0⟩
set_option maxHeartbeats 1000000 in
theorem speaksOfX_any (k n : Int) (t : ByteArray) (so ao ko : Option Addr) (sn sc an ac kn kc : Nat) (w : World) :
    Calls Tryz.prog 60 #[.agg #[.int .i64 k, .string t, .int .i64 n, .slice so sn sc, .slice ao an ac, .slice ko kn kc]] w fun e w' => e = .returned (.bool (spk k t)) ∧ Below w.heap.size w w' := by
  have k0 := box_below w (.cells #[.int .i64 k, .string t, .int .i64 n, .slice so sn sc, .slice ao an ac, .slice ko kn kc] 31)
  obtain ⟨b0, b1, b2, b3, b4, b5⟩ := box6 (allocNew w (.cells #[.int .i64 k, .string t, .int .i64 n, .slice so sn sc, .slice ao an ac, .slice ko kn kc] 31))
  have hA : spk k t = ((decide (k = 2) || decide (k = 11)) && (t.toList == [120])) := rfl
  rw [hA]
  clear hA
  by_cases h2 : k = 2
  · have e2 : (k == 2) = true := by simp [h2]
    have d2 : decide (k = 2) = true := by simp [h2]
    rw [d2, Bool.true_or, Bool.true_and]
    clear h2 d2
    go_enter Tryz.func60, Tryz.ntmps60
    go_wp2
    go_ret
    exact ⟨rfl, k0⟩
  have e2 : (k == 2) = false := by simp [h2]
  have d2 : decide (k = 2) = false := by simp [h2]
  rw [d2, Bool.false_or]
  by_cases h3 : k = 11
  · have e3 : (k == 11) = true := by simp [h3]
    have d3 : decide (k = 11) = true := by simp [h3]
    rw [d3, Bool.true_and]
    clear h2 d2 h3 d3
    go_enter Tryz.func60, Tryz.ntmps60
    go_wp2
    go_ret
    exact ⟨rfl, k0⟩
  have e3 : (k == 11) = false := by simp [h3]
  have d3 : decide (k = 11) = false := by simp [h3]
  rw [d3, Bool.false_and]
  clear h2 d2 h3 d3
  go_enter Tryz.func60, Tryz.ntmps60
  go_wp2
  go_ret
  exact ⟨rfl, k0⟩
end Go.Proofs.YtiahilelcppfgaaGreat
