
/- Contract of package shape's indices, over the library's slices.Backward. -/

import Derived.Test.YtjnlkdeiccllgaaLoop
import Derived.Test.YtjnlkdeiccllgaaMath2
import Derived.RangeFuncBound
import Derived.Deep.OwnRows




namespace Go.Proofs.Ytjnlkdeiccllgaa

open Go.RowKit Go.Shelf Go.Deep
attribute [local go_sem] Oper.semAt_some
set_option linter.unusedVariables false

/-- Between two rounds of indices: its three variables, and what lies below. -/
def idxI (w : World) (ao : Option Addr) (n cap : Nat) (zs : List Int) (p : Int) (k : Nat) (W : World) : Prop :=
  Boxed W w.heap.size 3 (.int .i64 (p / pr (zs.drop k))) ∧ Boxed W (w.heap.size + 1 + 1) 22 (.slice (some ⟨w.heap.size + 1, 0, none⟩) n n) ∧ Fr W w.heap.size (some ⟨w.heap.size + 1, 0, none⟩) n n (digK zs p k) ∧
    Boxed W (w.heap.size + 1 + 1 + 1) 22 (.slice ao n cap) ∧ Below w.heap.size w W

theorem some_ne {a b : Nat} (h : a ≠ b) : some a ≠ some b := fun e => h (by cases e; rfl)

theorem grown_of_below {W W' : World} (h : Below W.heap.size W W') : W.grownBy W' none := ⟨h.os, h.tape, h.output, h.size, fun k hk _ => h.block k hk⟩

theorem idxI.kept {w : World} {ao : Option Addr} {n cap : Nat} {zs : List Int} {p : Int} {k : Nat} {row : Option Nat} {W W' : World} (h : idxI w ao n cap zs p k W) (hg : W.grownBy W' row) (hl : ∀ l, row = some l → w.heap.size + 4 ≤ l) : idxI w ao n cap zs p k W' := by
  obtain ⟨h1, h2, h3, h4, h5⟩ := h
  have ne : ∀ b, b < w.heap.size + 4 → some b ≠ row := fun b hb e => by have := hl b e.symm; omega
  refine ⟨h1.kept hg (ne _ (by omega)), h2.kept hg (ne _ (by omega)), h3.kept hg ?_, h4.kept hg (ne _ (by omega)), h5.grown hg h5.size (fun k e => by have := hl k e; omega)⟩
  intro b off e
  cases e
  exact ne _ (by omega)

theorem idxI.step {w : World} {ao : Option Addr} {n cap : Nat} {zs : List Int} {p : Int} {k l : Nat} {L : Lp} {V : World} (h : idxI w ao n cap zs p (k + 1) V) (hl : zs.length = n) (hk : k < n) (hp : allPos zs) (h0 : 0 ≤ p) (h4 : p ≤ 4096) (hn : nth zs k ≤ 9223372036854775807)
    (hr : L.is .busy none l V) (hl1 : w.heap.size + 4 ≤ l) (hl2 : w.heap.size + 4 ≤ L.own) :
    L.is .busy none l ((V.setCell ⟨w.heap.size + 1, k, none⟩ (.int .i64 (p / pr (zs.drop (k + 1)) % nth zs k))).setCell ⟨w.heap.size, 0, none⟩ (.int .i64 (p / pr (zs.drop (k + 1)) / nth zs k))).drew ∧
    ∀ W', ((V.setCell ⟨w.heap.size + 1, k, none⟩ (.int .i64 (p / pr (zs.drop (k + 1)) % nth zs k))).setCell ⟨w.heap.size, 0, none⟩ (.int .i64 (p / pr (zs.drop (k + 1)) / nth zs k))).drew.grownBy W' (some l) → idxI w ao n cap zs p k W' := by
  obtain ⟨h1, h2, h3, h4, h5⟩ := h
  have hbd := dg_bd (p := p) (show k < zs.length by omega) hp
  have hg1 := (h3.own.stored k (.int .i64 (dg zs p k))).2
  have h3' := h3.set k hk (dg zs p k) (by omega) (by omega)
  rw [← digK_step (by omega)] at h3'
  have hg2 := grownBy_setCell' (V.setCell ⟨w.heap.size + 1, k, none⟩ (.int .i64 (dg zs p k))) w.heap.size (.int .i64 (p / pr (zs.drop (k + 1)) / nth zs k))
  have h1' := (h1.kept hg1 (some_ne (by omega))).set (.int .i64 (p / pr (zs.drop (k + 1)) / nth zs k))
  rw [← quo_step (m := k) (by omega) hp] at h1' hg2 ⊢
  have r2 := (hr.kept hg1 (some_ne (by omega)) (some_ne (by omega))).kept hg2 (some_ne (by omega)) (some_ne (by omega))
  have all : idxI w ao n cap zs p k ((V.setCell ⟨w.heap.size + 1, k, none⟩ (.int .i64 (dg zs p k))).setCell ⟨w.heap.size, 0, none⟩ (.int .i64 (p / pr (zs.drop k)))) :=
    ⟨h1', (h2.kept hg1 (some_ne (by omega))).kept hg2 (some_ne (by omega)), h3'.kept hg2 (by intro b off e; cases e; exact some_ne (by omega)), (h4.kept hg1 (some_ne (by omega))).kept hg2 (some_ne (by omega)), (h5.setCell (p := ⟨w.heap.size + 1, k, none⟩) (by simp) _).setCell (p := ⟨w.heap.size, 0, none⟩) (Nat.le_refl _) _⟩
  unfold dg at r2 all
  generalize (V.setCell ⟨w.heap.size + 1, k, none⟩ (.int .i64 (p / pr (zs.drop (k + 1)) % nth zs k))).setCell ⟨w.heap.size, 0, none⟩ (.int .i64 (p / pr (zs.drop k))) = U at *
  have gd : U.grownBy U.drew none := ⟨rfl, rfl, rfl, Nat.le_refl _, fun _ _ _ => rfl⟩
  exact ⟨r2.kept gd (by simp) (by simp), fun W' hg => (all.kept gd (by simp)).kept hg (fun j e => by cases e; exact hl1)⟩

theorem idx_start (w : World) (ao : Option Addr) (n cap : Nat) (zs : List Int) (p : Int) (hl : zs.length = n) (hr : n * 8 ≤ 140737488351232) :
    idxI w ao n cap zs p n ((((w.alloc (.cells #[.int .i64 p] 3)).alloc (.cells (madeCells #[.int .i64 0] n) 3)).alloc (.cells #[.slice (some ⟨w.heap.size + 1, 0, none⟩) n n] 22)).alloc (.cells #[.slice ao n cap] 22)) := by
  have b0 := Boxed.new w 3 (.int .i64 p)
  have e1 : (w.alloc (.cells #[.int .i64 p] 3)).heap.size = w.heap.size + 1 := by simp
  have b2 := Boxed.new ((w.alloc (.cells #[.int .i64 p] 3)).alloc (.cells (madeCells #[.int .i64 0] n) 3)) 22 (.slice (some ⟨w.heap.size + 1, 0, none⟩) n n)
  have b3 := Boxed.new (((w.alloc (.cells #[.int .i64 p] 3)).alloc (.cells (madeCells #[.int .i64 0] n) 3)).alloc (.cells #[.slice (some ⟨w.heap.size + 1, 0, none⟩) n n] 22)) 22 (.slice ao n cap)
  simp only [World.size_alloc] at b2 b3
  have hq : p / pr (zs.drop n) = p := by rw [List.drop_eq_nil_of_le (by omega)]; simp [pr]
  have hd : digK zs p n = List.replicate n 0 := by rw [← hl]; exact digK_zero
  refine ⟨by rw [hq]; exact ((b0.alloc _).alloc _).alloc _, b2.alloc _, ?_, b3, ((((Below.refl _ w).alloc (Nat.le_refl _) _).alloc (by simp) _).alloc (by simp; omega) _).alloc (by simp; omega) _⟩
  rw [hd]
  have hown : ((w.alloc (.cells #[.int .i64 p] 3)).alloc (.cells (madeCells #[.int .i64 0] n) 3)).ownsRow w.heap.size 3 1 (.slice (some ⟨w.heap.size + 1, 0, none⟩) n n) n ((List.replicate n 0).map (Value.int .i64)) := by
    refine ⟨by simp, .inr ⟨w.heap.size + 1, n, madeCells #[.int .i64 0] n, rfl, by omega, ?_, Nat.le_refl _, by unfold maxLen; omega, by simp [madeCells], ?_⟩⟩
    · have := World.alloc_heap_new (w.alloc (.cells #[.int .i64 p] 3)) (.cells (madeCells #[.int .i64 0] n) 3)
      rwa [e1] at this
    · rw [Nat.mul_one]
      apply List.ext_getElem
      · simp [madeCells]
      · intro i h1 h2; simp [madeCells, Nat.mod_one]
  obtain ⟨a, c, e, hf⟩ := Fr.mk' (zs := List.replicate n 0) (by simp) hr (fun k hk => by simp [nth, hk]) hown
  cases e
  exact (hf.kept (World.grownBy_alloc _ _ none) (by simp)).kept (World.grownBy_alloc _ _ none) (by simp)

end Go.Proofs.Ytjnlkdeiccllgaa
