
/- The memory in which an array is handed in: a long array is handed in as it is. -/

import Derived.Test.YtmepcenbaohcoaaGreatH2

namespace Go.Proofs.YtmepcenbaohcoaaGreat

open Go.RowKit

set_option linter.unusedVariables false

theorem La.append {w W W' : World} {B hb p : Nat} {so : Option Addr} {sn sc : Nat} {ao : Option Addr} {an ac : Nat} {sh at' : List Int} {go0 go1 ho0 : Option Addr} {m0 : Nat} {ho1 : Option Addr} {m1 : Nat}
    (h : La w W B hb p so sn sc ao an ac sh at' go0 go1 ho0 m0 ho1 m1) {e : TypeId} (he : e ≠ 28 ∧ e ≠ 30) {xo : Option Addr} {n c : Nat} {zs : List Int} (F : Ft e W B xo n c zs) (hown : ownB xo = ownB ho0 ∨ ownB xo = ownB ho1 ∨ ∀ b, ownB xo = some b → w.heap.size ≤ b)
    (hg : W.grownBy W' (Value.slice xo n c).ownBlock) : La w W' B hb p so sn sc ao an ac sh at' go0 go1 ho0 m0 ho1 m1 := by
  rw [own_slice] at hg
  refine h.grow hg (fun b hb' => ?_)
  obtain ⟨hB, cur, hc⟩ := F.rows b hb'
  refine ⟨hB, fun e1 => ?_, fun e1 => ?_, fun e1 => ?_, fun hlt => ?_⟩
  · subst e1; exact he.1 (kinds hc h.hbox)
  · subst e1; exact he.2 (kinds hc h.abox)
  · subst e1; exact he.2 (kinds hc h.rbox)
  · rcases hown with e1 | e1 | e1
    · rcases h.o0 with e2 | e2
      · rw [e1, e2] at hb'; cases hb'
      · left; rw [← e2, ← e1]; exact hb'.symm
    · rcases h.o1 with e2 | e2
      · rw [e1, e2] at hb'; cases hb'
      · right; rw [← e2, ← e1]; exact hb'.symm
    · have := e1 b hb'; omega

/-- Where a row lies that was appended to twice. -/
theorem own_two {w W1 W2 : World} {ho co1 co2 : Option Addr} (h1 : ownB co1 = ownB ho ∨ ownB co1 = some W1.heap.size) (h2 : ownB co2 = ownB co1 ∨ ownB co2 = some W2.heap.size) (s1 : w.heap.size ≤ W1.heap.size) (s2 : w.heap.size ≤ W2.heap.size) : ownB co2 = ownB ho ∨ ∀ b, ownB co2 = some b → w.heap.size ≤ b := by
  rcases h2 with e2 | e2
  · rcases h1 with e1 | e1
    · exact .inl (e2.trans e1)
    · right; intro b hb; rw [e2, e1] at hb; cases hb; exact s1
  · right; intro b hb; rw [e2] at hb; cases hb; exact s2
theorem own_one {w W1 : World} {ho ho0 ho1 co1 : Option Addr} (h1 : ownB co1 = ownB ho ∨ ownB co1 = some W1.heap.size) (hh : ho = ho0 ∨ ho = ho1) (s1 : w.heap.size ≤ W1.heap.size) : ownB co1 = ownB ho0 ∨ ownB co1 = ownB ho1 ∨ ∀ b, ownB co1 = some b → w.heap.size ≤ b := by
  rcases h1 with e1 | e1
  · rcases hh with rfl | rfl
    · exact .inl e1
    · exact .inr (.inl e1)
  · right; right; intro b hb; rw [e1] at hb; cases hb; exact s1

def zz : List Int := [0, 0]
/-- Two zeros, just laid. -/
theorem lit_ft (e : TypeId) (w : World) : Ft e (w.alloc (.cells #[.int .i64 0, .int .i64 0] e)) w.heap.size (some ⟨w.heap.size, 0, none⟩) 2 2 zz := ft_new e w [0, 0] (by simp) (by decide)
theorem lit_sl (a : Addr) : Sl (some a) 2 2 := ⟨fun e => (by cases e), Nat.le_refl _, by omega⟩

/-- What the hand's first row is behind its two appends. -/
structure A0 (e : TypeId) (w W : World) (B : Nat) (ho : Option Addr) (n : Nat) (zs : List Int) (g c : Nat) : Prop where
  f : Ft e W B (some ⟨g, 0, none⟩) (n + 2) c (zs ++ zz)
  at' : ho = some ⟨g, 0, none⟩ ∨ w.heap.size ≤ g
theorem a0_of {e : TypeId} {w W : World} {B : Nat} {ho co : Option Addr} {n c : Nat} {zs : List Int} (hn : e = e) (f : Ft e W B co (n + 2) c (zs ++ zz)) (h : ownB co = ownB ho ∨ ∀ b, ownB co = some b → w.heap.size ≤ b) (hr : ho = none ∨ ∃ g, ho = some ⟨g, 0, none⟩) : ∃ g, co = some ⟨g, 0, none⟩ ∧ A0 e w W B ho n zs g c := by
  obtain ⟨g, rfl, _, _⟩ := f.form (by omega)
  refine ⟨g, rfl, f, ?_⟩
  rcases h with h | h
  · rcases hr with rfl | ⟨g', rfl⟩
    · cases h
    · cases h; exact .inl rfl
  · exact .inr (h g rfl)
theorem Rw.shape {e : TypeId} {W : World} {B : Nat} {go : Option Addr} {n : Nat} (h : Rw e W B go n) : go = none ∨ ∃ g, go = some ⟨g, 0, none⟩ := by
  rcases h.is with ⟨e, _⟩ | ⟨g, e, _⟩
  · exact .inl e
  · exact .inr ⟨g, e⟩

/-- The marks behind lengths, and behind atoms, as 64 bits hold them. -/
def mk7 (i : Nat) : Int := wrap64 (-70000 - (i : Int))
def mk8 (i : Nat) : Int := wrap64 (-80000 - (i : Int))
/-- The numbers of a list with marks behind them. -/
def mrk (f : Nat → Int) (zs : List Int) (n : Nat) (k : Nat) : Int := if k < n then nth zs k else f k

theorem A0.pr {e : TypeId} {w W : World} {B : Nat} {ho : Option Addr} {n : Nat} {zs : List Int} {g c : Nat} (h : A0 e w W B ho n zs g c) (hl : zs.length = n) (f : Nat → Int) : Pr e W g c n (mrk f zs n) ∧ n + 2 ≤ c ∧ c ≤ 9223372036854775807 ∧ B ≤ g := by
  obtain ⟨cur, c1, c2, c3, c4, c5⟩ := h.f.rowH
  refine ⟨⟨⟨cur, c1, c2, fun k hk => ?_⟩, c3⟩, c4, c3, (h.f.at g 0 rfl).1⟩
  rw [c5 k (by omega)]
  unfold mrk; rw [if_pos hk]
  have e : nth (zs ++ zz) k = nth zs k := by unfold nth; simp [List.getElem?_append, hl, hk]
  rw [e]

theorem La.row {w W W' : World} {B hb p : Nat} {so : Option Addr} {sn sc : Nat} {ao : Option Addr} {an ac : Nat} {sh at' : List Int} {go0 go1 ho0 : Option Addr} {m0 : Nat} {ho1 : Option Addr} {m1 : Nat}
    (h : La w W B hb p so sn sc ao an ac sh at' go0 go1 ho0 m0 ho1 m1) {e : TypeId} (he : e ≠ 28 ∧ e ≠ 30) {g c m : Nat} {f : Nat → Int} (P : Pr e W g c m f) (hB : B ≤ g) (hat : go0 = some ⟨g, 0, none⟩ ∨ go1 = some ⟨g, 0, none⟩ ∨ w.heap.size ≤ g)
    (hg : W.grownBy W' (some g)) : La w W' B hb p so sn sc ao an ac sh at' go0 go1 ho0 m0 ho1 m1 := by
  obtain ⟨cur, hc, _⟩ := P.blk
  refine h.grow hg (fun b hb' => ?_)
  cases hb'
  refine ⟨hB, fun e1 => ?_, fun e1 => ?_, fun e1 => ?_, fun hlt => ?_⟩
  · subst e1; exact he.1 (kinds hc h.hbox)
  · subst e1; exact he.2 (kinds hc h.abox)
  · subst e1; exact he.2 (kinds hc h.rbox)
  · rcases hat with e1 | e1 | e1
    · left; rw [e1]; rfl
    · right; rw [e1]; rfl
    · omega

/-- A hand that was filled: its box, and both rows with marks in all the room behind. -/
structure Ld (w W : World) (B hb : Nat) (go0 go1 : Option Addr) (sn an : Nat) (sh at' : List Int) (g0 c0 g1 c1 : Nat) : Prop where
  box : W.heap[hb]? = some (.cells #[.slice (some ⟨g0, 0, none⟩) c0 c0, .slice (some ⟨g1, 0, none⟩) c1 c1] 28 (0, 0))
  base : B ≤ hb
  p0 : Pr 3 W g0 c0 c0 (mrk mk7 sh sn)
  p1 : Pr 2 W g1 c1 c1 (mrk mk8 at' an)
  b0 : B ≤ g0
  b1 : B ≤ g1
  l0 : sn + 2 ≤ c0
  l1 : an + 2 ≤ c1
  a0 : go0 = some ⟨g0, 0, none⟩ ∨ w.heap.size ≤ g0
  a1 : go1 = some ⟨g1, 0, none⟩ ∨ w.heap.size ≤ g1

theorem rows_ne {W : World} {g g' c c' m m' : Nat} {f f' : Nat → Int} (P : Pr 3 W g c m f) (Q : Pr 2 W g' c' m' f') : g ≠ g' := by
  rintro rfl
  obtain ⟨cur, h1, _⟩ := P.blk
  obtain ⟨cur', h2, _⟩ := Q.blk
  exact absurd (kinds h1 h2) (by decide)

/-- A hand that was filled, and the two boxes of the call that fills it. -/
structure Le (w W : World) (B hb p : Nat) (so : Option Addr) (sn sc : Nat) (ao : Option Addr) (an ac : Nat) (sh at' : List Int) (go0 go1 : Option Addr) (g0 c0 g1 c1 : Nat) : Prop where
  ld : Ld w W B hb go0 go1 sn an sh at' g0 c0 g1 c1
  abox : W.heap[p]? = some (.cells #[.slice so sn sc, .slice ao an ac] 30 (0, 0))
  rbox : ∃ x y, W.heap[p + 1]? = some (.cells #[x, y] 30 (0, 0))
  hp : w.heap.size ≤ p
  kp : Kp w W (fun b => b = hb ∨ some b = ownB go0 ∨ some b = ownB go1)

section

variable {w W W' : World} {B hb p : Nat} {so : Option Addr} {sn sc : Nat} {ao : Option Addr} {an ac : Nat} {sh at' : List Int} {go0 go1 ho0 : Option Addr} {m0 : Nat} {ho1 : Option Addr} {m1 : Nat} {g0 c0 g1 c1 : Nat}

theorem Ld.kept (h : Ld w W B hb go0 go1 sn an sh at' g0 c0 g1 c1) {S : Nat → Prop} (k : Kp W W' S) (hS : ∀ j, S j → j ≠ hb ∧ j ≠ g0 ∧ j ≠ g1) : Ld w W' B hb go0 go1 sn an sh at' g0 c0 g1 c1 := by
  have l := (Array.getElem?_eq_some_iff.1 h.box).1
  exact ⟨(k.block hb l (fun s => (hS hb s).1 rfl)).trans h.box, h.base, h.p0.same (k.block g0 h.p0.lt (fun s => (hS g0 s).2.1 rfl)), h.p1.same (k.block g1 h.p1.lt (fun s => (hS g1 s).2.2 rfl)), h.b0, h.b1, h.l0, h.l1, h.a0, h.a1⟩
theorem Le.drew (h : Le w W B hb p so sn sc ao an ac sh at' go0 go1 g0 c0 g1 c1) : Le w W.drew B hb p so sn sc ao an ac sh at' go0 go1 g0 c0 g1 c1 :=
  ⟨h.ld.kept (S := fun _ => False) (Kp.ofBelow (Below.refl _ W).drew) (fun _ e => e.elim), h.abox, h.rbox, h.hp, h.kp.trans (Kp.ofBelow (S := fun _ => False) (Below.refl _ W).drew) (fun _ _ e => e.elim)⟩
theorem Le.set (h : Le w W B hb p so sn sc ao an ac sh at' go0 go1 g0 c0 g1 c1) (u v : Value) : Le w ((W.setCell ⟨p + 1, 0, none⟩ u).setCell ⟨p + 1, 1, none⟩ v) B hb p so sn sc ao an ac sh at' go0 go1 g0 c0 g1 c1 := by
  obtain ⟨x, y, hr⟩ := h.rbox
  have k := set2 W (p + 1) 0 1 u v
  have l := (Array.getElem?_eq_some_iff.1 h.abox).1
  obtain ⟨cu, q0, _⟩ := h.ld.p0.blk
  obtain ⟨cv, q1, _⟩ := h.ld.p1.blk
  refine ⟨h.ld.kept (Kp.of k) (fun j e => ?_), (k.block p l (by simp)).trans h.abox, ⟨u, v, ?_⟩, h.hp, h.kp.trans (Kp.of k) (fun j hj e => by cases e; have := h.hp; omega)⟩
  · cases e
    refine ⟨fun e => ?_, fun e => ?_, fun e => ?_⟩
    · rw [e] at hr; exact absurd (kinds hr h.ld.box) (by decide)
    · rw [e] at hr; exact absurd (kinds hr q0) (by decide)
    · rw [e] at hr; exact absurd (kinds hr q1) (by decide)
  · have h1 := heap_setCell_same W (p + 1) 0 _ 30 u hr
    have h2 := heap_setCell_same _ (p + 1) 1 _ 30 v h1
    simpa using h2
theorem Le.all (h : Le w W B hb p so sn sc ao an ac sh at' go0 go1 g0 c0 g1 c1) : W.cell? ⟨p, 0, none⟩ = some (.slice so sn sc) ∧ W.cell? ⟨p, 1, none⟩ = some (.slice ao an ac) ∧ Le w W B hb p so sn sc ao an ac sh at' go0 go1 g0 c0 g1 c1 := by
  obtain ⟨a, b, _, _⟩ := box2 h.abox
  exact ⟨a, b, h⟩
/-- The rows are laid into the hand's box. -/
theorem La.stored (h : La w W B hb p so sn sc ao an ac sh at' go0 go1 ho0 m0 ho1 m1) (P0 : Pr 3 W g0 c0 c0 (mrk mk7 sh sn)) (P1 : Pr 2 W g1 c1 c1 (mrk mk8 at' an)) (b0 : B ≤ g0) (b1 : B ≤ g1) (l0 : sn + 2 ≤ c0) (l1 : an + 2 ≤ c1) (a0 : go0 = some ⟨g0, 0, none⟩ ∨ w.heap.size ≤ g0) (a1 : go1 = some ⟨g1, 0, none⟩ ∨ w.heap.size ≤ g1) :
    Le w ((W.setCell ⟨hb, 0, none⟩ (.slice (some ⟨g0, 0, none⟩) c0 c0)).setCell ⟨hb, 1, none⟩ (.slice (some ⟨g1, 0, none⟩) c1 c1)) B hb p so sn sc ao an ac sh at' go0 go1 g0 c0 g1 c1 := by
  have k := set2 W hb 0 1 (.slice (some ⟨g0, 0, none⟩) c0 c0) (.slice (some ⟨g1, 0, none⟩) c1 c1)
  have h1 := heap_setCell_same W hb 0 _ 28 (.slice (some ⟨g0, 0, none⟩) c0 c0) h.hbox
  have h2 := heap_setCell_same _ hb 1 _ 28 (.slice (some ⟨g1, 0, none⟩) c1 c1) h1
  obtain ⟨cu, q0, _⟩ := P0.blk
  obtain ⟨cv, q1, _⟩ := P1.blk
  have la := (Array.getElem?_eq_some_iff.1 h.abox).1
  have lr := (Array.getElem?_eq_some_iff.1 h.rbox).1
  refine ⟨⟨by simpa using h2, h.base, P0.kept k (fun e => ?_), P1.kept k (fun e => ?_), b0, b1, l0, l1, a0, a1⟩, (k.block p la (fun e => ?_)).trans h.abox, ⟨_, _, (k.block _ lr (fun e => ?_)).trans h.rbox⟩, by rw [h.pw]; exact Nat.le_refl _, h.kp.trans (Kp.of k) (fun j hj e => by cases e; exact .inl rfl)⟩
  · cases e; exact absurd (kinds q0 h.hbox) (by decide)
  · cases e; exact absurd (kinds q1 h.hbox) (by decide)
  · cases e; exact absurd (kinds h.abox h.hbox) (by decide)
  · have := h.rbox; cases e; exact absurd (kinds this h.hbox) (by decide)
end

/-- Both rows are let go. -/
theorem La.nils {w W : World} {B hb p : Nat} {so : Option Addr} {sn sc : Nat} {ao : Option Addr} {an ac : Nat} {sh at' : List Int} {go0 go1 ho0 : Option Addr} {m0 : Nat} {ho1 : Option Addr} {m1 : Nat} (h : La w W B hb p so sn sc ao an ac sh at' go0 go1 ho0 m0 ho1 m1) :
    La w ((W.setCell ⟨hb, 0, none⟩ (.slice none 0 0)).setCell ⟨hb, 1, none⟩ (.slice none 0 0)) B hb p so sn sc ao an ac sh at' go0 go1 none 0 none 0 := by
  have k := set2 W hb 0 1 (.slice none 0 0) (.slice none 0 0)
  have h1 := heap_setCell_same W hb 0 _ 28 (.slice none 0 0) h.hbox
  have h2 := heap_setCell_same _ hb 1 _ 28 (.slice none 0 0) h1
  have la := (Array.getElem?_eq_some_iff.1 h.abox).1
  have lr := (Array.getElem?_eq_some_iff.1 h.rbox).1
  have hB := h.szB
  have hk := h.kp.size
  have hb' := h.base
  refine ⟨by simpa using h2, h.base, (k.block p la (fun e => ?_)).trans h.abox, (k.block _ lr (fun e => ?_)).trans h.rbox, h.s.low0 h.ls (fun j hj => k.block j (by omega) (fun e => by cases e; omega)) k.size, h.a.low0 h.la (fun j hj => k.block j (by omega) (fun e => by cases e; omega)) k.size, h.ls, h.la, h.kp.trans (Kp.of k) (fun j hj e => by cases e; exact .inl rfl), .inl rfl, .inl rfl, h.szB, h.pw⟩
  · cases e; exact absurd (kinds h.abox h.hbox) (by decide)
  · have := h.rbox; cases e; exact absurd (kinds this h.hbox) (by decide)

end Go.Proofs.YtmepcenbaohcoaaGreat

namespace Go.Proofs.YtmepcenbaohcoaaGreat

open Go.RowKit

set_option linter.unusedVariables false

/-- What is known while a hand is looked at. -/
structure Kt (w W : World) (B hb p : Nat) (so : Option Addr) (sn sc : Nat) (ao : Option Addr) (an ac : Nat) (sh at' : List Int) (g0 c0 g1 c1 : Nat) (f0 f1 : Nat → Int) : Prop where
  box : W.heap[hb]? = some (.cells #[.slice (some ⟨g0, 0, none⟩) c0 c0, .slice (some ⟨g1, 0, none⟩) c1 c1] 28 (0, 0))
  abox : W.heap[p]? = some (.cells #[.slice so sn sc, .slice ao an ac] 30 (0, 0))
  p0 : Pr 3 W g0 c0 c0 f0
  p1 : Pr 2 W g1 c1 c1 f1
  s : Rd W so sn sh
  a : Rd W ao an at'
  kp : Kp w W (fun b => b = g0 ∨ b = g1)

section

variable {w W : World} {B hb p : Nat} {so : Option Addr} {sn sc : Nat} {ao : Option Addr} {an ac : Nat} {sh at' : List Int} {g0 c0 g1 c1 : Nat} {f0 f1 : Nat → Int}

theorem Kt.set0 (h : Kt w W B hb p so sn sc ao an ac sh at' g0 c0 g1 c1 f0 f1) (ls : 0 < sn → ∀ b off, so = some ⟨b, off, none⟩ → b < B) (la : 0 < an → ∀ b off, ao = some ⟨b, off, none⟩ → b < B) (hB : B ≤ w.heap.size) (hb0 : B ≤ g0) {k : Nat} (hk : k < c0) {f' : Nat → Int} (u : Int) (hu : f' k = u) (ho : ∀ j, j ≠ k → f' j = f0 j) : Kt w (W.setCell ⟨g0, k, none⟩ (.int .i64 u)) B hb p so sn sc ao an ac sh at' g0 c0 g1 c1 f' f1 := by
  have s := set1 W g0 k (.int .i64 u)
  obtain ⟨cu, q0, _⟩ := h.p0.blk
  have l1 := (Array.getElem?_eq_some_iff.1 h.box).1
  have l2 := (Array.getElem?_eq_some_iff.1 h.abox).1
  have hne := rows_ne h.p0 h.p1
  have hs := h.kp.size
  refine ⟨(s.block hb l1 (fun e => ?_)).trans h.box, (s.block p l2 (fun e => ?_)).trans h.abox, h.p0.put k hk u hu ho, h.p1.kept s (fun e => by cases e; exact hne rfl), h.s.low0 ls (fun j hj => s.block j (by omega) (fun e => by cases e; omega)) s.size, h.a.low0 la (fun j hj => s.block j (by omega) (fun e => by cases e; omega)) s.size, h.kp.trans (Kp.of s) (fun j hj e => by cases e; exact .inl rfl)⟩
  · cases e; exact absurd (kinds q0 h.box) (by decide)
  · cases e; exact absurd (kinds q0 h.abox) (by decide)
theorem Kt.set1 (h : Kt w W B hb p so sn sc ao an ac sh at' g0 c0 g1 c1 f0 f1) (ls : 0 < sn → ∀ b off, so = some ⟨b, off, none⟩ → b < B) (la : 0 < an → ∀ b off, ao = some ⟨b, off, none⟩ → b < B) (hB : B ≤ w.heap.size) (hb1 : B ≤ g1) {k : Nat} (hk : k < c1) {f' : Nat → Int} (u : Int) (hu : f' k = u) (ho : ∀ j, j ≠ k → f' j = f1 j) : Kt w (W.setCell ⟨g1, k, none⟩ (.int .i64 u)) B hb p so sn sc ao an ac sh at' g0 c0 g1 c1 f0 f' := by
  have s := Go.Proofs.YtmepcenbaohcoaaGreat.set1 W g1 k (.int .i64 u)
  obtain ⟨cu, q1, _⟩ := h.p1.blk
  have l1 := (Array.getElem?_eq_some_iff.1 h.box).1
  have l2 := (Array.getElem?_eq_some_iff.1 h.abox).1
  have hne := rows_ne h.p0 h.p1
  have hs := h.kp.size
  refine ⟨(s.block hb l1 (fun e => ?_)).trans h.box, (s.block p l2 (fun e => ?_)).trans h.abox, h.p0.kept s (fun e => by cases e; exact hne rfl), h.p1.put k hk u hu ho, h.s.low0 ls (fun j hj => s.block j (by omega) (fun e => by cases e; omega)) s.size, h.a.low0 la (fun j hj => s.block j (by omega) (fun e => by cases e; omega)) s.size, h.kp.trans (Kp.of s) (fun j hj e => by cases e; exact .inr rfl)⟩
  · cases e; exact absurd (kinds q1 h.box) (by decide)
  · cases e; exact absurd (kinds q1 h.abox) (by decide)
end

set_option maxHeartbeats 8000000 in
set_option maxRecDepth 20000 in
/-- Kept: the hand is as it was filled; then it is written over. -/
theorem kept3_any (hb B : Nat) (go0 go1 : Option Addr) (so ao : Option Addr) (sn sc an ac : Nat) (sh at' : List Int) (g0 c0 g1 c1 : Nat) (w0 w : World) (hd : Ld w0 w B hb go0 go1 sn an sh at' g0 c0 g1 c1) (hs : Rd w so sn sh) (ha : Rd w ao an at') (ls : 0 < sn → ∀ b off, so = some ⟨b, off, none⟩ → b < B) (la : 0 < an → ∀ b off, ao = some ⟨b, off, none⟩ → b < B) (hB : B ≤ w.heap.size) :
    Calls Tryz.prog 10 #[.pointer (some ⟨hb, 0, none⟩), .agg #[.slice so sn sc, .slice ao an ac]] w fun e w' => e = .returned (.bool true) ∧ Hx w' B hb (some ⟨g0, 0, none⟩) c0 (some ⟨g1, 0, none⟩) c1 ∧ Kp w w' (fun b => b = g0 ∨ b = g1) := by
  have kb := box_below w (.cells #[.slice so sn sc, .slice ao an ac] 30)
  have b0 := allocNew w (.cells #[.slice so sn sc, .slice ao an ac] 30)
  have lh := (Array.getElem?_eq_some_iff.1 hd.box).1
  have K0 : Kt w (w.alloc (.cells #[.slice so sn sc, .slice ao an ac] 30)) B hb w.heap.size so sn sc ao an ac sh at' g0 c0 g1 c1 (mrk mk7 sh sn) (mrk mk8 at' an) :=
    ⟨(kb.block hb lh).trans hd.box, b0, hd.p0.same (kb.block g0 hd.p0.lt), hd.p1.same (kb.block g1 hd.p1.lt), hs.below kb (Nat.le_refl _), ha.below kb (Nat.le_refl _), Kp.ofBelow kb⟩
  have hb0 := hd.b0
  have hb1 := hd.b1
  have l0 := hd.l0
  have l1 := hd.l1
  have u0 := hd.p0.le
  have u1 := hd.p1.le
  have hbase := hd.base
  have rs := hs.room
  have ra := ha.room
  clear hd hs ha kb b0
  go_enter Tryz.func10, Tryz.ntmps10
  go_wp2
  go_loopw [5, 6] (fun ok i V => ∃ k : Nat, k ≤ c0 ∧ ok = .bool true ∧ i = .int .i64 (k : Nat) ∧ Kt w V B hb w.heap.size so sn sc ao an ac sh at' g0 c0 g1 c1 (fun j => if j < k then 3 else mrk mk7 sh sn j) (mrk mk8 at' an)) (fun _ i _ => c0 - (intOf i).toNat)
  case atStart => exact ⟨0, Nat.zero_le _, rfl, rfl, by simpa using K0⟩
  case round =>
    obtain ⟨k, hk, rfl, rfl, KK⟩ := hrel
    clear K0
    obtain ⟨x1, x2, _, _⟩ := box2 KK.box
    obtain ⟨x3, x4, _, _⟩ := box2 KK.abox
    by_cases hlt : k < c0
    · have cv := KK.p0.cell hlt
      have zv := KK.p0.frozen k
      simp only [Nat.lt_irrefl, if_false] at cv
      have s1 := KK.set0 ls la hB hb0 hlt (f' := fun j => if j < k + 1 then 3 else mrk mk7 sh sn j) 3 (by rw [if_pos (by omega)]) (fun j hj => by
        by_cases c : j < k
        · rw [if_pos c, if_pos (by omega)]
        · rw [if_neg c, if_neg (by omega)])
      by_cases hkn : k < sn
      · obtain ⟨b, off, rfl, hb', hcs⟩ := KK.s.cells (by omega)
        have d1 := hcs k hkn
        have em : mrk mk7 sh sn k = nth sh k := by unfold mrk; rw [if_pos hkn]
        rw [em] at cv
        clear hcs em
        go_wp2
        go_roundw
        case rel => exact ⟨k + 1, by omega, rfl, by go_num, s1⟩
        case measure => simp [intOf]; omega
      · have em : mrk mk7 sh sn k = wrap64 (-70000 - (k : Int)) := by unfold mrk; rw [if_neg hkn]; rfl
        rw [em] at cv
        clear em
        go_wp2
        go_roundw
        case rel => exact ⟨k + 1, by omega, rfl, by go_num, s1⟩
        case measure => simp [intOf]; omega
    · obtain rfl : c0 = k := by omega
      go_wp2
      go_loopw [5, 8] (fun ok i V => ∃ k : Nat, k ≤ c1 ∧ ok = .bool true ∧ i = .int .i64 (k : Nat) ∧ Kt w V B hb w.heap.size so sn sc ao an ac sh at' g0 c0 g1 c1 (fun j => if j < c0 then 3 else mrk mk7 sh sn j) (fun j => if j < k then 99 else mrk mk8 at' an j)) (fun _ i _ => c1 - (intOf i).toNat)
      case atStart => exact ⟨0, Nat.zero_le _, rfl, rfl, by simpa using KK⟩
      case round =>
        clear KK x1 x2 x3 x4
        obtain ⟨k, hk, rfl, rfl, KK⟩ := hrel
        obtain ⟨x1, x2, _, _⟩ := box2 KK.box
        obtain ⟨x3, x4, _, _⟩ := box2 KK.abox
        by_cases hlt : k < c1
        · have cv := KK.p1.cell hlt
          have zv := KK.p1.frozen k
          simp only [Nat.lt_irrefl, if_false] at cv
          have s1 := KK.set1 ls la hB hb1 hlt (f' := fun j => if j < k + 1 then 99 else mrk mk8 at' an j) 99 (by rw [if_pos (by omega)]) (fun j hj => by
            by_cases c : j < k
            · rw [if_pos c, if_pos (by omega)]
            · rw [if_neg c, if_neg (by omega)])
          by_cases hkn : k < an
          · obtain ⟨b, off, rfl, hb', hcs⟩ := KK.a.cells (by omega)
            have d1 := hcs k hkn
            have em : mrk mk8 at' an k = nth at' k := by unfold mrk; rw [if_pos hkn]
            rw [em] at cv
            clear hcs em
            go_wp2
            go_roundw
            case rel => exact ⟨k + 1, by omega, rfl, by go_num, s1⟩
            case measure => simp [intOf]; omega
          · have em : mrk mk8 at' an k = wrap64 (-80000 - (k : Int)) := by unfold mrk; rw [if_neg hkn]; rfl
            rw [em] at cv
            clear em
            go_wp2
            go_roundw
            case rel => exact ⟨k + 1, by omega, rfl, by go_num, s1⟩
            case measure => simp [intOf]; omega
        · obtain rfl : c1 = k := by omega
          go_wp2
          go_ret
          exact ⟨rfl, ⟨KK.box, hbase, ⟨.inr ⟨g0, rfl, hb0, KK.p0.less (Nat.zero_le _) (fun j hj => by omega)⟩⟩, ⟨.inr ⟨g1, rfl, hb1, KK.p1.less (Nat.zero_le _) (fun j hj => by omega)⟩⟩⟩, KK.kp⟩
end Go.Proofs.YtmepcenbaohcoaaGreat

namespace Go.Proofs.YtmepcenbaohcoaaGreat

open Go.RowKit

set_option linter.unusedVariables false

set_option maxHeartbeats 4000000 in
theorem lay_long (hb B : Nat) (go0 go1 : Option Addr) (n0 n1 : Nat) (so ao : Option Addr) (sn sc an ac : Nat) (w : World) (hx : Hx w B hb go0 n0 go1 n1) (hl : ¬ (sn ≤ 5000 ∧ an ≤ 5000)) :
    Calls Tryz.prog 8 #[.pointer (some ⟨hb, 0, none⟩), .agg #[.slice so sn sc, .slice ao an ac]] w fun e w' => e = .returned (.agg #[.slice so sn sc, .slice ao an ac]) ∧ Hx w' B hb none 0 none 0 ∧ Kp w w' (fun b => b = hb) := by
  have t := two_boxes w so ao none none sn sc an ac 0 0 0 0
  have b1 := allocNew (w.alloc (.cells #[.slice so sn sc, .slice ao an ac] 30)) (.cells #[.slice none 0 0, .slice none 0 0] 30)
  have b0 := ((box_below (w.alloc (.cells #[.slice so sn sc, .slice ao an ac] 30)) (.cells #[.slice none 0 0, .slice none 0 0] 30)).block w.heap.size (by simp)).trans (allocNew w (.cells #[.slice so sn sc, .slice ao an ac] 30))
  rw [World.size_alloc] at b1
  have lh := (Array.getElem?_eq_some_iff.1 hx.box).1
  have cs := fun W => short_any so ao sn sc an ac W
  rw [show (decide (sn ≤ 5000) && decide (an ≤ 5000)) = false by simp; omega] at cs
  have szl : ((w.alloc (.cells #[.slice so sn sc, .slice ao an ac] 30)).alloc (.cells #[.slice none 0 0, .slice none 0 0] 30)).heap.size = w.heap.size + 1 + 1 := by simp
  have hbox0 := (t.bel.block hb lh).trans hx.box
  have ne1 : ¬ hb = w.heap.size := by omega
  have ne2 : ¬ hb = w.heap.size + 1 := by omega
  have ne3 : ¬ w.heap.size = hb := by omega
  have ne4 : ¬ w.heap.size + 1 = hb := by omega
  go_enter Tryz.func8, Tryz.ntmps8
  go_wp2_with (go_at_call 19; refine (cs _).mono ?_; rintro e w1 ⟨rfl, k1⟩; have hbox := (k1.block hb (by rw [szl]; omega)).trans hbox0; have abox := (k1.block w.heap.size (by rw [szl]; omega)).trans b0; have rbox := (k1.block (w.heap.size + 1) (by rw [szl]; omega)).trans b1; obtain ⟨x1, x2, x3, x4⟩ := box2 hbox; obtain ⟨y1, y2, y3, y4⟩ := box2 abox; obtain ⟨z1, z2, z3, z4⟩ := box2 rbox)
  (try simp only [Exit.inBlock, Exit.then])
  refine bodyPost_ret (v := .agg #[.slice so sn sc, .slice ao an ac]) (by simp [results, Tryz.results8]; go_simp) rfl ?_
  have s1 := set2 w1 hb 0 1 (.slice none 0 0) (.slice none 0 0)
  have s2 := set2 ((w1.setCell ⟨hb, 0, none⟩ (.slice none 0 0)).setCell ⟨hb, 1, none⟩ (.slice none 0 0)) (w.heap.size + 1) 0 1 (.slice so sn sc) (.slice ao an ac)
  have h1 := heap_setCell_same w1 hb 0 _ 28 (.slice none 0 0) hbox
  have h2 := heap_setCell_same _ hb 1 _ 28 (.slice none 0 0) h1
  have l1 := (Array.getElem?_eq_some_iff.1 hbox).1
  have hk1 : Kp w w1 (fun b => b = hb) := Kp.ofBelow (t.bel.trans (k1.mono (by rw [szl]; omega)))
  refine ⟨rfl, ⟨(s2.block hb (by have := s1.size; omega) (by simp; omega)).trans (by simpa using h2), hx.base, Rw.nil _ _ _, Rw.nil _ _ _⟩, ?_⟩
  refine (hk1.trans (Kp.of s1) (fun j hj e => by cases e; rfl)).trans (Kp.of s2) (fun j hj e => by cases e; omega)

/-- Kept, of a hand that holds nothing. -/
theorem kept3_nil (hb B : Nat) (so ao : Option Addr) (sn sc an ac : Nat) (w : World) (hx : Hx w B hb none 0 none 0) :
    Calls Tryz.prog 10 #[.pointer (some ⟨hb, 0, none⟩), .agg #[.slice so sn sc, .slice ao an ac]] w fun e w' => e = .returned (.bool true) ∧ Below w.heap.size w w' := by
  have kb := box_below w (.cells #[.slice so sn sc, .slice ao an ac] 30)
  have lh := (Array.getElem?_eq_some_iff.1 hx.box).1
  obtain ⟨x1, x2, _, _⟩ := box2 ((kb.block hb lh).trans hx.box)
  go_enter Tryz.func10, Tryz.ntmps10
  go_wp2
  refine wp_loop_rounds 1 ?_
  rw [rounds_succ]
  go_wp2
  refine wp_loop_rounds 1 ?_
  rw [rounds_succ]
  go_wp2
  go_ret
  exact ⟨rfl, kb⟩
end Go.Proofs.YtmepcenbaohcoaaGreat
