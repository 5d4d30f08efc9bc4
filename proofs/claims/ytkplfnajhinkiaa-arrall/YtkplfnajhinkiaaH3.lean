
/- The memory in which an array is handed in is filled: a short array. -/

import Derived.Test.YtkplfnajhinkiaaH2

namespace Go.Proofs.Ytkplfnajhinkiaa

open Go.RowKit

set_option linter.unusedVariables false

theorem La.append {w W W' : World} {B hb p : Nat} {so : Option Addr} {sn sc : Nat} {ao : Option Addr} {an ac : Nat} {sh at' : List Int} {go0 go1 ho0 : Option Addr} {m0 : Nat} {ho1 : Option Addr} {m1 : Nat}
    (h : La w W B hb p so sn sc ao an ac sh at' go0 go1 ho0 m0 ho1 m1) {e : TypeId} (he : e ≠ 52 ∧ e ≠ 55) {xo : Option Addr} {n c : Nat} {zs : List Int} (F : Ft e W B xo n c zs) (hown : ownB xo = ownB ho0 ∨ ownB xo = ownB ho1 ∨ ∀ b, ownB xo = some b → w.heap.size ≤ b)
    (hg : W.grownBy W' (Value.slice xo n c).ownBlock) : La w W' B hb p so sn sc ao an ac sh at' go0 go1 ho0 m0 ho1 m1 := by
  rw [own_slice] at hg
  refine h.grow hg (fun b hb' => ?_)
  obtain ⟨hB, cur, hc⟩ := F.rows b hb'
  refine ⟨hB, fun e1 => ?_, fun e1 => ?_, fun e1 => ?_, fun hlt => ?_⟩
  · subst e1; exact he.1 (kinds hc h.hbox)
  · subst e1; exact he.2 (kinds hc h.abox)
  · subst e1; exact he.2 (kinds hc h.rbox)
  · rcases hown with e1 | e1 | e1
    · rcases h.o0 with e2 | e2
      · rw [e1, e2] at hb'; cases hb'
      · left; rw [← e2, ← e1]; exact hb'.symm
    · rcases h.o1 with e2 | e2
      · rw [e1, e2] at hb'; cases hb'
      · right; rw [← e2, ← e1]; exact hb'.symm
    · have := e1 b hb'; omega

/-- Where a row lies that was appended to twice. -/
theorem own_two {w W1 W2 : World} {ho co1 co2 : Option Addr} (h1 : ownB co1 = ownB ho ∨ ownB co1 = some W1.heap.size) (h2 : ownB co2 = ownB co1 ∨ ownB co2 = some W2.heap.size) (s1 : w.heap.size ≤ W1.heap.size) (s2 : w.heap.size ≤ W2.heap.size) : ownB co2 = ownB ho ∨ ∀ b, ownB co2 = some b → w.heap.size ≤ b := by
  rcases h2 with e2 | e2
  · rcases h1 with e1 | e1
    · exact .inl (e2.trans e1)
    · right; intro b hb; rw [e2, e1] at hb; cases hb; exact s1
  · right; intro b hb; rw [e2] at hb; cases hb; exact s2
theorem own_one {w W1 : World} {ho ho0 ho1 co1 : Option Addr} (h1 : ownB co1 = ownB ho ∨ ownB co1 = some W1.heap.size) (hh : ho = ho0 ∨ ho = ho1) (s1 : w.heap.size ≤ W1.heap.size) : ownB co1 = ownB ho0 ∨ ownB co1 = ownB ho1 ∨ ∀ b, ownB co1 = some b → w.heap.size ≤ b := by
  rcases h1 with e1 | e1
  · rcases hh with rfl | rfl
    · exact .inl e1
    · exact .inr (.inl e1)
  · right; right; intro b hb; rw [e1] at hb; cases hb; exact s1

def zz : List Int := [0, 0]
/-- Two zeros, just laid. -/
theorem lit_ft (e : TypeId) (w : World) : Ft e (w.alloc (.cells #[.int .i64 0, .int .i64 0] e)) w.heap.size (some ⟨w.heap.size, 0, none⟩) 2 2 zz := ft_new e w [0, 0] (by simp) (by decide)
theorem lit_sl (a : Addr) : Sl (some a) 2 2 := ⟨fun e => (by cases e), Nat.le_refl _, by omega⟩

/-- What the hand's first row is behind its two appends. -/
structure A0 (e : TypeId) (w W : World) (B : Nat) (ho : Option Addr) (n : Nat) (zs : List Int) (g c : Nat) : Prop where
  f : Ft e W B (some ⟨g, 0, none⟩) (n + 2) c (zs ++ zz)
  at' : ho = some ⟨g, 0, none⟩ ∨ w.heap.size ≤ g
theorem a0_of {e : TypeId} {w W : World} {B : Nat} {ho co : Option Addr} {n c : Nat} {zs : List Int} (hn : e = e) (f : Ft e W B co (n + 2) c (zs ++ zz)) (h : ownB co = ownB ho ∨ ∀ b, ownB co = some b → w.heap.size ≤ b) (hr : ho = none ∨ ∃ g, ho = some ⟨g, 0, none⟩) : ∃ g, co = some ⟨g, 0, none⟩ ∧ A0 e w W B ho n zs g c := by
  obtain ⟨g, rfl, _, _⟩ := f.form (by omega)
  refine ⟨g, rfl, f, ?_⟩
  rcases h with h | h
  · rcases hr with rfl | ⟨g', rfl⟩
    · cases h
    · cases h; exact .inl rfl
  · exact .inr (h g rfl)
theorem Rw.shape {e : TypeId} {W : World} {B : Nat} {go : Option Addr} {n : Nat} (h : Rw e W B go n) : go = none ∨ ∃ g, go = some ⟨g, 0, none⟩ := by
  rcases h.is with ⟨e, _⟩ | ⟨g, e, _⟩
  · exact .inl e
  · exact .inr ⟨g, e⟩

/-- The marks behind lengths, and behind atoms, as 64 bits hold them. -/
def mk7 (i : Nat) : Int := wrap64 (-70000 - (i : Int))
def mk8 (i : Nat) : Int := wrap64 (-80000 - (i : Int))
/-- The numbers of a list with marks behind them. -/
def mrk (f : Nat → Int) (zs : List Int) (n : Nat) (k : Nat) : Int := if k < n then nth zs k else f k

theorem A0.pr {e : TypeId} {w W : World} {B : Nat} {ho : Option Addr} {n : Nat} {zs : List Int} {g c : Nat} (h : A0 e w W B ho n zs g c) (hl : zs.length = n) (f : Nat → Int) : Pr e W g c n (mrk f zs n) ∧ n + 2 ≤ c ∧ c ≤ 9223372036854775807 ∧ B ≤ g := by
  obtain ⟨cur, c1, c2, c3, c4, c5⟩ := h.f.row
  refine ⟨⟨⟨cur, c1, c2, fun k hk => ?_⟩, c3⟩, c4, c3, (h.f.at g 0 rfl).1⟩
  rw [c5 k (by omega)]
  unfold mrk; rw [if_pos hk]
  have e : nth (zs ++ zz) k = nth zs k := by unfold nth; simp [List.getElem?_append, hl, hk]
  rw [e]

theorem La.row {w W W' : World} {B hb p : Nat} {so : Option Addr} {sn sc : Nat} {ao : Option Addr} {an ac : Nat} {sh at' : List Int} {go0 go1 ho0 : Option Addr} {m0 : Nat} {ho1 : Option Addr} {m1 : Nat}
    (h : La w W B hb p so sn sc ao an ac sh at' go0 go1 ho0 m0 ho1 m1) {e : TypeId} (he : e ≠ 52 ∧ e ≠ 55) {g c m : Nat} {f : Nat → Int} (P : Pr e W g c m f) (hB : B ≤ g) (hat : go0 = some ⟨g, 0, none⟩ ∨ go1 = some ⟨g, 0, none⟩ ∨ w.heap.size ≤ g)
    (hg : W.grownBy W' (some g)) : La w W' B hb p so sn sc ao an ac sh at' go0 go1 ho0 m0 ho1 m1 := by
  obtain ⟨cur, hc, _⟩ := P.blk
  refine h.grow hg (fun b hb' => ?_)
  cases hb'
  refine ⟨hB, fun e1 => ?_, fun e1 => ?_, fun e1 => ?_, fun hlt => ?_⟩
  · subst e1; exact he.1 (kinds hc h.hbox)
  · subst e1; exact he.2 (kinds hc h.abox)
  · subst e1; exact he.2 (kinds hc h.rbox)
  · rcases hat with e1 | e1 | e1
    · left; rw [e1]; rfl
    · right; rw [e1]; rfl
    · omega

/-- A hand that was filled: its box, and both rows with marks in all the room behind. -/
structure Ld (w W : World) (B hb : Nat) (go0 go1 : Option Addr) (sn an : Nat) (sh at' : List Int) (g0 c0 g1 c1 : Nat) : Prop where
  box : W.heap[hb]? = some (.cells #[.slice (some ⟨g0, 0, none⟩) c0 c0, .slice (some ⟨g1, 0, none⟩) c1 c1] 52 (0, 0))
  base : B ≤ hb
  p0 : Pr 3 W g0 c0 c0 (mrk mk7 sh sn)
  p1 : Pr 2 W g1 c1 c1 (mrk mk8 at' an)
  b0 : B ≤ g0
  b1 : B ≤ g1
  l0 : sn + 2 ≤ c0
  l1 : an + 2 ≤ c1
  a0 : go0 = some ⟨g0, 0, none⟩ ∨ w.heap.size ≤ g0
  a1 : go1 = some ⟨g1, 0, none⟩ ∨ w.heap.size ≤ g1

theorem rows_ne {W : World} {g g' c c' m m' : Nat} {f f' : Nat → Int} (P : Pr 3 W g c m f) (Q : Pr 2 W g' c' m' f') : g ≠ g' := by
  rintro rfl
  obtain ⟨cur, h1, _⟩ := P.blk
  obtain ⟨cur', h2, _⟩ := Q.blk
  exact absurd (kinds h1 h2) (by decide)

/-- A hand that was filled, and the two boxes of the call that fills it. -/
structure Le (w W : World) (B hb p : Nat) (so : Option Addr) (sn sc : Nat) (ao : Option Addr) (an ac : Nat) (sh at' : List Int) (go0 go1 : Option Addr) (g0 c0 g1 c1 : Nat) : Prop where
  ld : Ld w W B hb go0 go1 sn an sh at' g0 c0 g1 c1
  abox : W.heap[p]? = some (.cells #[.slice so sn sc, .slice ao an ac] 55 (0, 0))
  rbox : ∃ x y, W.heap[p + 1]? = some (.cells #[x, y] 55 (0, 0))
  hp : w.heap.size ≤ p
  kp : Kp w W (fun b => b = hb ∨ some b = ownB go0 ∨ some b = ownB go1)

section
variable {w W W' : World} {B hb p : Nat} {so : Option Addr} {sn sc : Nat} {ao : Option Addr} {an ac : Nat} {sh at' : List Int} {go0 go1 ho0 : Option Addr} {m0 : Nat} {ho1 : Option Addr} {m1 : Nat} {g0 c0 g1 c1 : Nat}

theorem Ld.kept (h : Ld w W B hb go0 go1 sn an sh at' g0 c0 g1 c1) {S : Nat → Prop} (k : Kp W W' S) (hS : ∀ j, S j → j ≠ hb ∧ j ≠ g0 ∧ j ≠ g1) : Ld w W' B hb go0 go1 sn an sh at' g0 c0 g1 c1 := by
  have l := (Array.getElem?_eq_some_iff.1 h.box).1
  exact ⟨(k.block hb l (fun s => (hS hb s).1 rfl)).trans h.box, h.base, h.p0.same (k.block g0 h.p0.lt (fun s => (hS g0 s).2.1 rfl)), h.p1.same (k.block g1 h.p1.lt (fun s => (hS g1 s).2.2 rfl)), h.b0, h.b1, h.l0, h.l1, h.a0, h.a1⟩
theorem Le.drew (h : Le w W B hb p so sn sc ao an ac sh at' go0 go1 g0 c0 g1 c1) : Le w W.drew B hb p so sn sc ao an ac sh at' go0 go1 g0 c0 g1 c1 :=
  ⟨h.ld.kept (S := fun _ => False) (Kp.ofBelow (Below.refl _ W).drew) (fun _ e => e.elim), h.abox, h.rbox, h.hp, h.kp.trans (Kp.ofBelow (S := fun _ => False) (Below.refl _ W).drew) (fun _ _ e => e.elim)⟩
theorem Le.set (h : Le w W B hb p so sn sc ao an ac sh at' go0 go1 g0 c0 g1 c1) (u v : Value) : Le w ((W.setCell ⟨p + 1, 0, none⟩ u).setCell ⟨p + 1, 1, none⟩ v) B hb p so sn sc ao an ac sh at' go0 go1 g0 c0 g1 c1 := by
  obtain ⟨x, y, hr⟩ := h.rbox
  have k := set2 W (p + 1) 0 1 u v
  have l := (Array.getElem?_eq_some_iff.1 h.abox).1
  obtain ⟨cu, q0, _⟩ := h.ld.p0.blk
  obtain ⟨cv, q1, _⟩ := h.ld.p1.blk
  refine ⟨h.ld.kept (Kp.of k) (fun j e => ?_), (k.block p l (by simp)).trans h.abox, ⟨u, v, ?_⟩, h.hp, h.kp.trans (Kp.of k) (fun j hj e => by cases e; have := h.hp; omega)⟩
  · cases e
    refine ⟨fun e => ?_, fun e => ?_, fun e => ?_⟩
    · rw [e] at hr; exact absurd (kinds hr h.ld.box) (by decide)
    · rw [e] at hr; exact absurd (kinds hr q0) (by decide)
    · rw [e] at hr; exact absurd (kinds hr q1) (by decide)
  · have h1 := heap_setCell_same W (p + 1) 0 _ 55 u hr
    have h2 := heap_setCell_same _ (p + 1) 1 _ 55 v h1
    simpa using h2
theorem Le.all (h : Le w W B hb p so sn sc ao an ac sh at' go0 go1 g0 c0 g1 c1) : W.cell? ⟨p, 0, none⟩ = some (.slice so sn sc) ∧ W.cell? ⟨p, 1, none⟩ = some (.slice ao an ac) ∧ Le w W B hb p so sn sc ao an ac sh at' go0 go1 g0 c0 g1 c1 := by
  obtain ⟨a, b, _, _⟩ := box2 h.abox
  exact ⟨a, b, h⟩
/-- The rows are laid into the hand's box. -/
theorem La.stored (h : La w W B hb p so sn sc ao an ac sh at' go0 go1 ho0 m0 ho1 m1) (P0 : Pr 3 W g0 c0 c0 (mrk mk7 sh sn)) (P1 : Pr 2 W g1 c1 c1 (mrk mk8 at' an)) (b0 : B ≤ g0) (b1 : B ≤ g1) (l0 : sn + 2 ≤ c0) (l1 : an + 2 ≤ c1) (a0 : go0 = some ⟨g0, 0, none⟩ ∨ w.heap.size ≤ g0) (a1 : go1 = some ⟨g1, 0, none⟩ ∨ w.heap.size ≤ g1) :
    Le w ((W.setCell ⟨hb, 0, none⟩ (.slice (some ⟨g0, 0, none⟩) c0 c0)).setCell ⟨hb, 1, none⟩ (.slice (some ⟨g1, 0, none⟩) c1 c1)) B hb p so sn sc ao an ac sh at' go0 go1 g0 c0 g1 c1 := by
  have k := set2 W hb 0 1 (.slice (some ⟨g0, 0, none⟩) c0 c0) (.slice (some ⟨g1, 0, none⟩) c1 c1)
  have h1 := heap_setCell_same W hb 0 _ 52 (.slice (some ⟨g0, 0, none⟩) c0 c0) h.hbox
  have h2 := heap_setCell_same _ hb 1 _ 52 (.slice (some ⟨g1, 0, none⟩) c1 c1) h1
  obtain ⟨cu, q0, _⟩ := P0.blk
  obtain ⟨cv, q1, _⟩ := P1.blk
  have la := (Array.getElem?_eq_some_iff.1 h.abox).1
  have lr := (Array.getElem?_eq_some_iff.1 h.rbox).1
  refine ⟨⟨by simpa using h2, h.base, P0.kept k (fun e => ?_), P1.kept k (fun e => ?_), b0, b1, l0, l1, a0, a1⟩, (k.block p la (fun e => ?_)).trans h.abox, ⟨_, _, (k.block _ lr (fun e => ?_)).trans h.rbox⟩, by rw [h.pw]; exact Nat.le_refl _, h.kp.trans (Kp.of k) (fun j hj e => by cases e; exact .inl rfl)⟩
  · cases e; exact absurd (kinds q0 h.hbox) (by decide)
  · cases e; exact absurd (kinds q1 h.hbox) (by decide)
  · cases e; exact absurd (kinds h.abox h.hbox) (by decide)
  · have := h.rbox; cases e; exact absurd (kinds this h.hbox) (by decide)
end

/-- Both rows are let go. -/
theorem La.nils {w W : World} {B hb p : Nat} {so : Option Addr} {sn sc : Nat} {ao : Option Addr} {an ac : Nat} {sh at' : List Int} {go0 go1 ho0 : Option Addr} {m0 : Nat} {ho1 : Option Addr} {m1 : Nat} (h : La w W B hb p so sn sc ao an ac sh at' go0 go1 ho0 m0 ho1 m1) :
    La w ((W.setCell ⟨hb, 0, none⟩ (.slice none 0 0)).setCell ⟨hb, 1, none⟩ (.slice none 0 0)) B hb p so sn sc ao an ac sh at' go0 go1 none 0 none 0 := by
  have k := set2 W hb 0 1 (.slice none 0 0) (.slice none 0 0)
  have h1 := heap_setCell_same W hb 0 _ 52 (.slice none 0 0) h.hbox
  have h2 := heap_setCell_same _ hb 1 _ 52 (.slice none 0 0) h1
  have la := (Array.getElem?_eq_some_iff.1 h.abox).1
  have lr := (Array.getElem?_eq_some_iff.1 h.rbox).1
  have hB := h.szB
  have hk := h.kp.size
  have hb' := h.base
  refine ⟨by simpa using h2, h.base, (k.block p la (fun e => ?_)).trans h.abox, (k.block _ lr (fun e => ?_)).trans h.rbox, h.s.low0 h.ls (fun j hj => k.block j (by omega) (fun e => by cases e; omega)) k.size, h.a.low0 h.la (fun j hj => k.block j (by omega) (fun e => by cases e; omega)) k.size, h.ls, h.la, h.kp.trans (Kp.of k) (fun j hj e => by cases e; exact .inl rfl), .inl rfl, .inl rfl, h.szB, h.pw⟩
  · cases e; exact absurd (kinds h.abox h.hbox) (by decide)
  · have := h.rbox; cases e; exact absurd (kinds this h.hbox) (by decide)

end Go.Proofs.Ytkplfnajhinkiaa
