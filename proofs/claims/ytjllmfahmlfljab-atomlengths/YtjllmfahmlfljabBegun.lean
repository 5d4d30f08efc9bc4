
/- What every statement asks ahead answers true. -/

import Derived.Test.YtjllmfahmlfljabAt

namespace Go.Proofs.Ytjllmfahmlfljab

open Go.RowKit

set_option linter.unusedVariables false

/-- What All hands out: how many places there are, and a list of its own. -/
structure Sq (w : World) (B1 B2 : Nat) (co : Option Addr) (n c : Nat) (zs : List Int) : Prop where
  size : Boxed w B1 3 (.int .i64 (sizeF zs))
  list : Boxed w B2 22 (.slice co n c)
  rd : Rd w co n zs

theorem Sq.below {w w' : World} {B1 B2 B : Nat} {co : Option Addr} {n c : Nat} {zs : List Int} (h : Sq w B1 B2 co n c zs) (hb : Below B w w') (hB : w.heap.size ≤ B) : Sq w' B1 B2 co n c zs :=
  ⟨(hb.block B1 (Nat.lt_of_lt_of_le h.size.lt hB)).trans h.size, (hb.block B2 (Nat.lt_of_lt_of_le h.list.lt hB)).trans h.list, h.rd.below hb hB⟩

/-- Between two rounds of walks: its four variables, and what lies below. -/
structure WI (w : World) (so : Option Addr) (m sc : Nat) (want : Int) (k : Nat) (W : World) : Prop where
  s : Boxed W w.heap.size 22 (.slice so m sc)
  want : Boxed W (w.heap.size + 1) 3 (.int .i64 want)
  ok : Boxed W (w.heap.size + 1 + 1) 4 (.bool true)
  i : Boxed W (w.heap.size + 1 + 1 + 1) 3 (.int .i64 (k : Nat))
  bel : Below w.heap.size w W

theorem WI.kept {w : World} {so : Option Addr} {m sc : Nat} {want : Int} {k : Nat} {row : Option Nat} {W W' : World} (h : WI w so m sc want k W) (hg : W.grownBy W' row) (hl : ∀ l, row = some l → w.heap.size + 4 ≤ l) : WI w so m sc want k W' := by
  have ne : ∀ b, b < w.heap.size + 4 → some b ≠ row := fun b hb e => by have := hl b e.symm; omega
  exact ⟨h.s.kept hg (ne _ (by omega)), h.want.kept hg (ne _ (by omega)), h.ok.kept hg (ne _ (by omega)), h.i.kept hg (ne _ (by omega)), h.bel.grown hg h.bel.size (fun k e => by have := hl k e; omega)⟩
theorem WI.below {w : World} {so : Option Addr} {m sc : Nat} {want : Int} {k B : Nat} {W W' : World} (h : WI w so m sc want k W) (hb : Below B W W') (hB : W.heap.size ≤ B) : WI w so m sc want k W' :=
  h.kept (grown_of_below (hb.mono hB)) (by simp)
theorem WI.setOk {w : World} {so : Option Addr} {m sc : Nat} {want : Int} {k : Nat} {W : World} (h : WI w so m sc want k W) : WI w so m sc want k (W.setCell ⟨w.heap.size + 1 + 1, 0, none⟩ (.bool true)) :=
  ⟨h.s.other (by omega) _, h.want.other (by omega) _, h.ok.set _, h.i.other (by omega) _, h.bel.setCell (p := ⟨w.heap.size + 1 + 1, 0, none⟩) (by simp; omega) _⟩
theorem WI.setI {w : World} {so : Option Addr} {m sc : Nat} {want : Int} {k : Nat} {W : World} (h : WI w so m sc want k W) : WI w so m sc want (k + 1) (W.setCell ⟨w.heap.size + 1 + 1 + 1, 0, none⟩ (.int .i64 ((k : Int) + 1))) :=
  ⟨h.s.other (by omega) _, h.want.other (by omega) _, h.ok.other (by omega) _, h.i.set _, h.bel.setCell (p := ⟨w.heap.size + 1 + 1 + 1, 0, none⟩) (by simp; omega) _⟩

theorem wi_start (w : World) (so : Option Addr) (m sc : Nat) (want : Int) : WI w so m sc want 0 ((((w.alloc (.cells #[.slice so m sc] 22)).alloc (.cells #[.int .i64 want] 3)).alloc (.cells #[.bool true] 4)).alloc (.cells #[.int .i64 0] 3)) := by
  have b0 := Boxed.new w 22 (.slice so m sc)
  have b1 := Boxed.new (w.alloc (.cells #[.slice so m sc] 22)) 3 (.int .i64 want)
  have b2 := Boxed.new ((w.alloc (.cells #[.slice so m sc] 22)).alloc (.cells #[.int .i64 want] 3)) 4 (.bool true)
  have b3 := Boxed.new (((w.alloc (.cells #[.slice so m sc] 22)).alloc (.cells #[.int .i64 want] 3)).alloc (.cells #[.bool true] 4)) 3 (.int .i64 0)
  simp only [World.size_alloc] at b1 b2 b3
  exact ⟨((b0.alloc _).alloc _).alloc _, (b1.alloc _).alloc _, b2.alloc _, b3, ((((Below.refl _ w).alloc (Nat.le_refl _) _).alloc (by simp) _).alloc (by simp; omega) _).alloc (by simp; omega) _⟩

end Go.Proofs.Ytjllmfahmlfljab


namespace Go.Proofs.Ytjllmfahmlfljab

open Go.RowKit

set_option linter.unusedVariables false

def lits (zs : List Int) : Bool := decide (zs.length ≤ 100) && zs.all fun z => decide (-10000 ≤ z ∧ z ≤ 10000)

theorem rdA (W : World) (zs : List Int) (h : lits zs = true) : Rd (W.alloc (.cells (zs.map (Value.int .i64)).toArray 3)) (some ⟨W.heap.size, 0, none⟩) zs.length zs := by
  simp only [lits, Bool.and_eq_true, decide_eq_true_eq, List.all_eq_true] at h
  refine ⟨rfl, by omega, fun k hk => ?_, fun _ => ⟨W.heap.size, 0, rfl, by simp, fun k hk => ?_⟩⟩
  · have := h.2 _ (nth_mem hk); omega
  · have hb := World.alloc_heap_new W (.cells (zs.map (Value.int .i64)).toArray 3)
    have := cell_of_row (W.alloc (.cells (zs.map (Value.int .i64)).toArray 3)) W.heap.size (0 + k) _ 3 (0, 0) hb
    rw [this, Nat.zero_add]
    simpa using nth_map hk
theorem rdB (W : World) (o : Obj) (zs : List Int) (h : lits zs = true) : Rd ((W.alloc o).alloc (.cells (zs.map (Value.int .i64)).toArray 3)) (some ⟨W.heap.size + 1, 0, none⟩) zs.length zs := by
  have := rdA (W.alloc o) zs h
  rwa [World.size_alloc] at this
theorem slA (a : Addr) (n : Nat) (h : n ≤ 100) : Sl (some a) n n := ⟨fun e => (by cases e), Nat.le_refl _, by omega⟩

theorem b_size (W : World) : Calls Try.prog 13 #[.slice (some ⟨W.heap.size, 0, none⟩) 3 3] (W.alloc (.cells #[.int .i64 2, .int .i64 3, .int .i64 4] 3)) fun e w' => e = .returned (.tuple #[.int .i64 24, .int .i64 0]) ∧ Below W.heap.size W w' :=
  (size_any _ 3 3 [2, 3, 4] _ (rdA W [2, 3, 4] (by decide))).mono fun e w' ⟨h1, h2⟩ => ⟨h1, by rw [h2]; exact (Below.refl _ _).alloc (Nat.le_refl _) _⟩
theorem b_agree (W : World) : Calls Try.prog 14 #[.slice (some ⟨W.heap.size, 0, none⟩) 1 1, .slice (some ⟨W.heap.size + 1, 0, none⟩) 2 2] ((W.alloc (.cells #[.int .i64 2] 3)).alloc (.cells #[.int .i64 2, .int .i64 3] 3))
    fun e w' => ∃ co k c, e = .returned (.tuple #[.slice co k c, .int .i64 0]) ∧ Rd w' co k [2, 3] ∧ Below W.heap.size W w' :=
  (agree_any _ _ 1 2 1 2 [2] [2, 3] _ ((rdA W [2] (by decide)).alloc _) (rdB W _ [2, 3] (by decide)) (slA _ 1 (by omega)) (slA _ 2 (by omega))).mono fun e w' ⟨co, k, c, h1, h2, h3⟩ => ⟨co, k, c, h1, h2.rd, (((Below.refl _ _).alloc (Nat.le_refl _) _).alloc (by simp) _).trans (h3.mono (by simp; omega))⟩
theorem b_may (W : World) : Calls Try.prog 21 #[.slice (some ⟨W.heap.size, 0, none⟩) 2 2] (W.alloc (.cells #[.int .i64 64, .int .i64 65] 3)) fun e w' => e = .returned (.int .i64 17) ∧ Below W.heap.size W w' :=
  (may_any _ 2 2 [64, 65] _ (rdA W [64, 65] (by decide))).mono fun e w' ⟨h1, h2⟩ => ⟨h1, by rw [h2]; exact (Below.refl _ _).alloc (Nat.le_refl _) _⟩
theorem bt {B : Nat} {a b c : World} (h : Below B a b) (k : Below b.heap.size b c) (hB : B ≤ b.heap.size) : Below B a c := h.trans (k.mono hB)

end Go.Proofs.Ytjllmfahmlfljab
