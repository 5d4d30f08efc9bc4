
/- What every statement asks ahead answers true. -/

import Derived.Test.YtjnlkdeiccllgaaWalks

namespace Go.Proofs.Ytjnlkdeiccllgaa

open Go.RowKit

set_option linter.unusedVariables false

def lits (zs : List Int) : Bool := decide (zs.length ≤ 100) && zs.all fun z => decide (-10000 ≤ z ∧ z ≤ 10000)

theorem rdA (W : World) (zs : List Int) (h : lits zs = true) : Rd (W.alloc (.cells (zs.map (Value.int .i64)).toArray 3)) (some ⟨W.heap.size, 0, none⟩) zs.length zs := by
  simp only [lits, Bool.and_eq_true, decide_eq_true_eq, List.all_eq_true] at h
  refine ⟨rfl, by omega, fun k hk => ?_, fun _ => ⟨W.heap.size, 0, rfl, by simp, fun k hk => ?_⟩⟩
  · have := h.2 _ (nth_mem hk); omega
  · have hb := World.alloc_heap_new W (.cells (zs.map (Value.int .i64)).toArray 3)
    have := cell_of_row (W.alloc (.cells (zs.map (Value.int .i64)).toArray 3)) W.heap.size (0 + k) _ 3 (0, 0) hb
    rw [this, Nat.zero_add]
    simpa using nth_map hk
theorem rdB (W : World) (o : Obj) (zs : List Int) (h : lits zs = true) : Rd ((W.alloc o).alloc (.cells (zs.map (Value.int .i64)).toArray 3)) (some ⟨W.heap.size + 1, 0, none⟩) zs.length zs := by
  have := rdA (W.alloc o) zs h
  rwa [World.size_alloc] at this
theorem slA (a : Addr) (n : Nat) (h : n ≤ 100) : Sl (some a) n n := ⟨fun e => (by cases e), Nat.le_refl _, by omega⟩

theorem b_size (W : World) : Calls Try.prog 10 #[.slice (some ⟨W.heap.size, 0, none⟩) 3 3] (W.alloc (.cells #[.int .i64 2, .int .i64 3, .int .i64 4] 3)) fun e w' => e = .returned (.tuple #[.int .i64 24, .int .i64 0]) ∧ Below W.heap.size W w' :=
  (size_any _ 3 3 [2, 3, 4] _ (rdA W [2, 3, 4] (by decide))).mono fun e w' ⟨h1, h2⟩ => ⟨h1, by rw [h2]; exact (Below.refl _ _).alloc (Nat.le_refl _) _⟩
theorem b_split (W : World) : Calls Try.prog 33 #[.slice (some ⟨W.heap.size, 0, none⟩) 3 3, .int .i64 (-1)] (W.alloc (.cells #[.int .i64 2, .int .i64 3, .int .i64 4] 3))
    fun e w' => ∃ co c do' d, e = .returned (.tuple #[.slice co 1 c, .slice do' 2 d]) ∧ Rd w' co 1 [2] ∧ Rd w' do' 2 [3, 4] ∧ Below W.heap.size W w' :=
  (split_any _ 3 3 [2, 3, 4] (-1) _ (rdA W [2, 3, 4] (by decide)) (slA _ 3 (by omega)) (by omega) (by omega)).mono fun e w' ⟨co, c, do', d, h1, h2, h3, h4, h5⟩ => ⟨co, c, do', d, h1, h2.rd, h3.rd, ((Below.refl _ _).alloc (Nat.le_refl _) _).trans (h5.mono (by simp))⟩
theorem b_may (W : World) : Calls Try.prog 19 #[.slice (some ⟨W.heap.size, 0, none⟩) 2 2] (W.alloc (.cells #[.int .i64 64, .int .i64 65] 3)) fun e w' => e = .returned (.int .i64 17) ∧ Below W.heap.size W w' :=
  (may_any _ 2 2 [64, 65] _ (rdA W [64, 65] (by decide))).mono fun e w' ⟨h1, h2⟩ => ⟨h1, by rw [h2]; exact (Below.refl _ _).alloc (Nat.le_refl _) _⟩
theorem b_eq (W : World) (zs : List Int) (hz : lits zs = true) (co : Option Addr) (k c : Nat) (h : Rd W co k zs) : Calls Try.prog 20 #[.slice co k c, .slice (some ⟨W.heap.size, 0, none⟩) zs.length zs.length] (W.alloc (.cells (zs.map (Value.int .i64)).toArray 3)) fun e w' => e = .returned (.bool true) ∧ Below W.heap.size W w' :=
  (eqInts_any _ _ k _ c _ zs zs _ (h.alloc _) (rdA W zs hz)).mono fun e w' ⟨h1, q, h2⟩ => ⟨by rw [h1, eqB_refl], by rw [h2]; exact below_drewN ((Below.refl _ _).alloc (Nat.le_refl _) _) q⟩
theorem bt {B : Nat} {a b c : World} (h : Below B a b) (k : Below b.heap.size b c) (hB : B ≤ b.heap.size) : Below B a c := h.trans (k.mono hB)

end Go.Proofs.Ytjnlkdeiccllgaa
