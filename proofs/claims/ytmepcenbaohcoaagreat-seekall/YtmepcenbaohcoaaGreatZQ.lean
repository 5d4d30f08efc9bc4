
/- SeekAll: the two hands between calls; what stays where. -/

import Derived.Test.YtmepcenbaohcoaaGreatK2

import Derived.Test.YtmepcenbaohcoaaGreatH5

import Derived.Test.YtmepcenbaohcoaaGreatH6

import Derived.Test.YtmepcenbaohcoaaGreatRSp

namespace Go.Proofs.YtmepcenbaohcoaaGreat

open Go.RowKit

set_option linter.unusedVariables false

/-- What a row of a hand became: none, the one that it was, or a new one. -/
def Came' (w : World) (go go' : Option Addr) : Prop := go' = none ∨ go' = go ∨ ∃ g, go' = some ⟨g, 0, none⟩ ∧ w.heap.size ≤ g

/-- An array as it is handed in: in the hand, or (a long one) as it is. -/
structure Lx (w W : World) (B hb : Nat) (go0 go1 : Option Addr) (sn an : Nat) (sh at' : List Int) (xo : Option Addr) (xc : Nat) (yo : Option Addr) (yc : Nat) (r0 r1 : Option Addr) : Prop where
  is : (∃ g0 g1, r0 = some ⟨g0, 0, none⟩ ∧ r1 = some ⟨g1, 0, none⟩ ∧ xo = r0 ∧ yo = r1 ∧ Ld w W B hb go0 go1 sn an sh at' g0 xc g1 yc) ∨ (r0 = none ∧ r1 = none ∧ Hx W B hb none 0 none 0 ∧ (0 < sn → ∀ b off, xo = some ⟨b, off, none⟩ → b < B) ∧ (0 < an → ∀ b off, yo = some ⟨b, off, none⟩ → b < B))
  s : Rd W xo sn sh
  a : Rd W yo an at'
  ss : Sl xo sn xc
  sa : Sl yo an yc
  szB : B ≤ W.heap.size

section

variable {w W W' : World} {B hb : Nat} {go0 go1 : Option Addr} {sn an : Nat} {sh at' : List Int} {xo : Option Addr} {xc : Nat} {yo : Option Addr} {yc : Nat} {r0 r1 : Option Addr}

/-- It stays where none of its own blocks, and nothing ahead of B, changes. -/
theorem Lx.kept (h : Lx w W B hb go0 go1 sn an sh at' xo xc yo yc r0 r1) {S : Nat → Prop} (k : Kp W W' S) (hS : ∀ j, S j → B ≤ j ∧ j ≠ hb ∧ r0 ≠ some ⟨j, 0, none⟩ ∧ r1 ≠ some ⟨j, 0, none⟩) : Lx w W' B hb go0 go1 sn an sh at' xo xc yo yc r0 r1 := by
  have hB := h.szB
  have hk := k.size
  rcases h.is with ⟨g0, g1, rfl, rfl, rfl, rfl, L⟩ | ⟨e0, e1, X, ls, la⟩
  · have L' := L.kept k (fun j s => ⟨(hS j s).2.1, fun e => (hS j s).2.2.1 (by rw [e]), fun e => (hS j s).2.2.2 (by rw [e])⟩)
    have l0 := L.l0
    have l1 := L.l1
    exact ⟨.inl ⟨g0, g1, rfl, rfl, rfl, rfl, L'⟩, L'.p0.rd (by omega) h.s.len h.s.room h.s.num (fun j hj => by unfold mrk; rw [if_pos hj]), L'.p1.rd (by omega) h.a.len h.a.room h.a.num (fun j hj => by unfold mrk; rw [if_pos hj]), h.ss, h.sa, by omega⟩
  · have l := (Array.getElem?_eq_some_iff.1 X.box).1
    exact ⟨.inr ⟨e0, e1, ⟨(k.block hb l (fun s => (hS hb s).2.1 rfl)).trans X.box, X.base, Rw.nil _ _ _, Rw.nil _ _ _⟩, ls, la⟩, h.s.low0 ls (fun j hj => k.block j (by omega) (fun s => by have := (hS j s).1; omega)) k.size, h.a.low0 la (fun j hj => k.block j (by omega) (fun s => by have := (hS j s).1; omega)) k.size, h.ss, h.sa, by omega⟩
theorem Lx.below (h : Lx w W B hb go0 go1 sn an sh at' xo xc yo yc r0 r1) (k : Below W.heap.size W W') : Lx w W' B hb go0 go1 sn an sh at' xo xc yo yc r0 r1 :=
  h.kept (S := fun _ => False) (Kp.ofBelow k) (fun _ e => e.elim)
end

theorem ld_lx {w W : World} {B hb : Nat} {go0 go1 : Option Addr} {sn an : Nat} {sh at' : List Int} {g0 c0 g1 c1 : Nat} (L : Ld w W B hb go0 go1 sn an sh at' g0 c0 g1 c1) {so ao : Option Addr} {w0 w1 : World} (hs : Rd w0 so sn sh) (ha : Rd w1 ao an at') (hB : B ≤ W.heap.size) : Lx w W B hb go0 go1 sn an sh at' (some ⟨g0, 0, none⟩) c0 (some ⟨g1, 0, none⟩) c1 (some ⟨g0, 0, none⟩) (some ⟨g1, 0, none⟩) := by
  have l0 := L.l0
  have l1 := L.l1
  exact ⟨.inl ⟨g0, g1, rfl, rfl, rfl, rfl, L⟩, L.p0.rd (by omega) hs.len hs.room hs.num (fun j hj => by unfold mrk; rw [if_pos hj]), L.p1.rd (by omega) ha.len ha.room ha.num (fun j hj => by unfold mrk; rw [if_pos hj]), ⟨fun e => (by cases e), by omega, L.p0.le⟩, ⟨fun e => (by cases e), by omega, L.p1.le⟩, hB⟩

/-- Lay: any array. -/
theorem lay_any (hb B : Nat) (go0 go1 : Option Addr) (n0 n1 : Nat) (so ao : Option Addr) (sn sc an ac : Nat) (sh at' : List Int) (w : World) (hx : Hx w B hb go0 n0 go1 n1) (hs : Rd w so sn sh) (ss : Sl so sn sc) (ha : Rd w ao an at') (sa : Sl ao an ac) (ls : 0 < sn → ∀ b off, so = some ⟨b, off, none⟩ → b < B) (la : 0 < an → ∀ b off, ao = some ⟨b, off, none⟩ → b < B) (hB : B ≤ w.heap.size) :
    Calls Tryz.prog 8 #[.pointer (some ⟨hb, 0, none⟩), .agg #[.slice so sn sc, .slice ao an ac]] w fun e w' => ∃ xo xc yo yc r0 r1, e = .returned (.agg #[.slice xo sn xc, .slice yo an yc]) ∧ Lx w w' B hb go0 go1 sn an sh at' xo xc yo yc r0 r1 ∧ Kp w w' (fun b => b = hb ∨ some b = ownB go0 ∨ some b = ownB go1) := by
  by_cases hl : sn ≤ 5000 ∧ an ≤ 5000
  · by_cases f0 : n0 ≤ sn + 70000
    · by_cases f1 : n1 ≤ an + 70000
      · exact (lay_fit hb B go0 go1 n0 n1 so ao sn sc an ac sh at' w hx hs ss ha sa ls la hB hl.1 hl.2 f0 f1).mono fun e w' ⟨g0, c0, g1, c1, x1, x2, x3⟩ => ⟨_, c0, _, c1, _, _, x1, ld_lx x2 hs ha (Nat.le_trans hB x3.size), x3⟩
      · exact (lay_big2 hb B go0 go1 n0 n1 so ao sn sc an ac sh at' w hx hs ss ha sa ls la hB hl.1 hl.2 f0 (by omega)).mono fun e w' ⟨g0, c0, g1, c1, x1, x2, x3⟩ => ⟨_, c0, _, c1, _, _, x1, ld_lx x2 hs ha (Nat.le_trans hB x3.size), x3⟩
    · exact (lay_big1 hb B go0 go1 n0 n1 so ao sn sc an ac sh at' w hx hs ss ha sa ls la hB hl.1 hl.2 (by omega)).mono fun e w' ⟨g0, c0, g1, c1, x1, x2, x3⟩ => ⟨_, c0, _, c1, _, _, x1, ld_lx x2 hs ha (Nat.le_trans hB x3.size), x3⟩
  · refine (lay_long hb B go0 go1 n0 n1 so ao sn sc an ac w hx hl).mono fun e w' ⟨x1, x2, x3⟩ => ⟨so, sc, ao, ac, none, none, x1, ?_, x3.wide (fun j e => .inl e)⟩
    have hbb := hx.base
    exact ⟨.inr ⟨rfl, rfl, x2, ls, la⟩, hs.low0 ls (fun j hj => x3.block j (by omega) (fun e => by omega)) x3.size, ha.low0 la (fun j hj => x3.block j (by omega) (fun e => by omega)) x3.size, ss, sa, Nat.le_trans hB x3.size⟩

/-- Kept: any array that was handed in. -/
theorem keptx_any (hb B : Nat) (go0 go1 : Option Addr) (so ao : Option Addr) (sn sc an ac : Nat) (sh at' : List Int) (xo : Option Addr) (xc : Nat) (yo : Option Addr) (yc : Nat) (r0 r1 : Option Addr) (w0 w : World) (h : Lx w0 w B hb go0 go1 sn an sh at' xo xc yo yc r0 r1) (hs : Rd w so sn sh) (ha : Rd w ao an at') (ls : 0 < sn → ∀ b off, so = some ⟨b, off, none⟩ → b < B) (la : 0 < an → ∀ b off, ao = some ⟨b, off, none⟩ → b < B) :
    Calls Tryz.prog 10 #[.pointer (some ⟨hb, 0, none⟩), .agg #[.slice so sn sc, .slice ao an ac]] w fun e w' => e = .returned (.bool true) ∧ (∃ m0 m1, Hx w' B hb r0 m0 r1 m1) ∧ Kp w w' (fun b => some b = ownB r0 ∨ some b = ownB r1) ∧ Came' w0 go0 r0 ∧ Came' w0 go1 r1 := by
  have hB := h.szB
  rcases h.is with ⟨g0, g1, rfl, rfl, rfl, rfl, L⟩ | ⟨rfl, rfl, X, l1, l2⟩
  · refine (kept3_any hb B go0 go1 so ao sn sc an ac sh at' g0 xc g1 yc w0 w L hs ha ls la (by omega)).mono fun e w' ⟨x1, x2, x3⟩ => ⟨x1, ⟨_, _, x2⟩, x3.wide (fun j e => ?_), ?_, ?_⟩
    · rcases e with rfl | rfl
      · exact .inl rfl
      · exact .inr rfl
    · rcases L.a0 with e | e
      · exact .inr (.inl e.symm)
      · exact .inr (.inr ⟨g0, rfl, e⟩)
    · rcases L.a1 with e | e
      · exact .inr (.inl e.symm)
      · exact .inr (.inr ⟨g1, rfl, e⟩)
  · refine (kept3_nil hb B so ao sn sc an ac w X).mono fun e w' ⟨x1, x2⟩ => ⟨x1, ⟨0, 0, ?_⟩, Kp.ofBelow x2, .inl rfl, .inl rfl⟩
    have l := (Array.getElem?_eq_some_iff.1 X.box).1
    exact ⟨(x2.block hb l).trans X.box, X.base, Rw.nil _ _ _, Rw.nil _ _ _⟩
end Go.Proofs.YtmepcenbaohcoaaGreat

namespace Go.Proofs.YtmepcenbaohcoaaGreat

open Go.RowKit

set_option linter.unusedVariables false

theorem Hx.kept {W W' : World} {B gb : Nat} {ho0 ho1 : Option Addr} {m0 m1 : Nat} (h : Hx W B gb ho0 m0 ho1 m1) {S : Nat → Prop} (k : Kp W W' S) (hS : ∀ j, S j → j ≠ gb ∧ ho0 ≠ some ⟨j, 0, none⟩ ∧ ho1 ≠ some ⟨j, 0, none⟩) : Hx W' B gb ho0 m0 ho1 m1 := by
  have l := (Array.getElem?_eq_some_iff.1 h.box).1
  exact ⟨(k.block gb l (fun s => (hS gb s).1 rfl)).trans h.box, h.base, h.r0.same (fun g e => k.block g (h.r0.at g e).2.1 (fun s => (hS g s).2.1 e)), h.r1.same (fun g e => k.block g (h.r1.at g e).2.1 (fun s => (hS g s).2.2 e))⟩
theorem own_at {e : TypeId} {W : World} {B : Nat} {go : Option Addr} {n j : Nat} (h : Rw e W B go n) (hj : some j = ownB go) : go = some ⟨j, 0, none⟩ := by
  rcases h.is with ⟨rfl, _⟩ | ⟨g, rfl, _, _⟩
  · cases hj
  · cases hj; rfl

/-- Two hands have no block in common. -/
structure Dis (hb gb : Nat) (go0 go1 ho0 ho1 : Option Addr) : Prop where
  ne : hb ≠ gb
  d0 : ∀ g, go0 = some ⟨g, 0, none⟩ → ho0 ≠ some ⟨g, 0, none⟩
  d1 : ∀ g, go1 = some ⟨g, 0, none⟩ → ho1 ≠ some ⟨g, 0, none⟩
theorem Dis.symm {hb gb : Nat} {go0 go1 ho0 ho1 : Option Addr} (h : Dis hb gb go0 go1 ho0 ho1) : Dis gb hb ho0 ho1 go0 go1 := ⟨Ne.symm h.ne, fun g e f => h.d0 g f e, fun g e f => h.d1 g f e⟩
/-- What one hand's filling may change is none of the other's. -/
theorem Dis.blocks {W : World} {B hb gb : Nat} {go0 go1 ho0 ho1 : Option Addr} {n0 n1 m0 m1 : Nat} (d : Dis hb gb go0 go1 ho0 ho1) (h : Hx W B hb go0 n0 go1 n1) (g : Hx W B gb ho0 m0 ho1 m1) : ∀ j, (j = hb ∨ some j = ownB go0 ∨ some j = ownB go1) → B ≤ j ∧ j < W.heap.size ∧ j ≠ gb ∧ ho0 ≠ some ⟨j, 0, none⟩ ∧ ho1 ≠ some ⟨j, 0, none⟩ := by
  rintro j (rfl | e | e)
  · refine ⟨h.base, (Array.getElem?_eq_some_iff.1 h.box).1, d.ne, fun e => ?_, fun e => ?_⟩
    · obtain ⟨_, _, c, hc⟩ := g.r0.at _ e
      exact absurd (kinds hc h.box) (by decide)
    · obtain ⟨_, _, c, hc⟩ := g.r1.at _ e
      exact absurd (kinds hc h.box) (by decide)
  · have e1 := own_at h.r0 e
    obtain ⟨b1, b2, c, hc⟩ := h.r0.at _ e1
    refine ⟨b1, b2, fun e2 => ?_, d.d0 _ e1, fun e2 => ?_⟩
    · subst e2; exact absurd (kinds hc g.box) (by decide)
    · obtain ⟨_, _, c', hc'⟩ := g.r1.at _ e2
      exact absurd (kinds hc hc') (by decide)
  · have e1 := own_at h.r1 e
    obtain ⟨b1, b2, c, hc⟩ := h.r1.at _ e1
    refine ⟨b1, b2, fun e2 => ?_, fun e2 => ?_, d.d1 _ e1⟩
    · subst e2; exact absurd (kinds hc g.box) (by decide)
    · obtain ⟨_, _, c', hc'⟩ := g.r0.at _ e2
      exact absurd (kinds hc hc') (by decide)

/-- The rows of a hand that was filled. -/
theorem Lx.rows {w W : World} {B hb : Nat} {go0 go1 : Option Addr} {sn an : Nat} {sh at' : List Int} {xo : Option Addr} {xc : Nat} {yo : Option Addr} {yc : Nat} {r0 r1 : Option Addr} (h : Lx w W B hb go0 go1 sn an sh at' xo xc yo yc r0 r1) :
    (∀ g, r0 = some ⟨g, 0, none⟩ → B ≤ g ∧ g < W.heap.size ∧ (∃ c, W.heap[g]? = some (.cells c 3 (0, 0))) ∧ (go0 = some ⟨g, 0, none⟩ ∨ w.heap.size ≤ g)) ∧ (∀ g, r1 = some ⟨g, 0, none⟩ → B ≤ g ∧ g < W.heap.size ∧ (∃ c, W.heap[g]? = some (.cells c 2 (0, 0))) ∧ (go1 = some ⟨g, 0, none⟩ ∨ w.heap.size ≤ g)) ∧ (∃ v, W.heap[hb]? = some (.cells v 28 (0, 0))) ∧ B ≤ hb ∧ hb < W.heap.size := by
  rcases h.is with ⟨g0, g1, rfl, rfl, rfl, rfl, L⟩ | ⟨rfl, rfl, X, _, _⟩
  · refine ⟨fun g e => ?_, fun g e => ?_, ⟨_, L.box⟩, L.base, (Array.getElem?_eq_some_iff.1 L.box).1⟩
    · cases e; obtain ⟨c, hc, _⟩ := L.p0.blk; exact ⟨L.b0, L.p0.lt, ⟨c, hc⟩, L.a0⟩
    · cases e; obtain ⟨c, hc, _⟩ := L.p1.blk; exact ⟨L.b1, L.p1.lt, ⟨c, hc⟩, L.a1⟩
  · exact ⟨fun g e => (by cases e), fun g e => (by cases e), ⟨_, X.box⟩, X.base, (Array.getElem?_eq_some_iff.1 X.box).1⟩

end Go.Proofs.YtmepcenbaohcoaaGreat

namespace Go.Proofs.YtmepcenbaohcoaaGreat

open Go.RowKit

set_option linter.unusedVariables false

theorem Kp.cell {w w' : World} {S : Nat → Prop} (k : Kp w w' S) {b i : Nat} (hb : b < w.heap.size) (hS : ¬ S b) : w'.cell? ⟨b, i, none⟩ = w.cell? ⟨b, i, none⟩ := World.cell?_of_block (w := w) (k.block b hb hS)
/-- A row stays where its block does. -/
theorem Ft.kp {e : TypeId} {w w' : World} {B : Nat} {ao : Option Addr} {n cap : Nat} {zs : List Int} (h : Ft e w B ao n cap zs) {S : Nat → Prop} (k : Kp w w' S) (hS : ∀ j, B ≤ j → j < w.heap.size → ¬ S j) : Ft e w' B ao n cap zs := by
  have fb : ∀ j off, ao = some ⟨j, off, none⟩ → j < w.heap.size ∧ ¬ S j := fun j off ea => ⟨(h.at j off ea).2, hS j (h.at j off ea).1 (h.at j off ea).2⟩
  refine ⟨⟨h.rd.len, h.rd.room, h.rd.num, fun h0 => ?_⟩, h.own.1, ?_⟩
  · obtain ⟨b, off, ea, hb, hc⟩ := h.rd.cells h0
    exact ⟨b, off, ea, Nat.lt_of_lt_of_le hb k.size, fun i hi => (k.cell (fb b off ea).1 (fb b off ea).2).trans (hc i hi)⟩
  · rcases h.own.2 with x | ⟨g, c, cur, h1, h2, h3, h4⟩
    · exact .inl x
    · have ea : ao = some ⟨g, 0, none⟩ := by simp at h1; exact h1.1
      exact .inr ⟨g, c, cur, h1, h2, (k.block g (fb g 0 ea).1 (fb g 0 ea).2).trans h3, h4⟩

/-- Between two calls of a script. -/
structure Inv (w W : World) (hb gb : Nat) : Prop where
  bl : Below w.heap.size w W
  ha : ∃ go0 go1 ho0 ho1, (∃ m0 m1, Hx W w.heap.size hb go0 m0 go1 m1) ∧ (∃ m0 m1, Hx W w.heap.size gb ho0 m0 ho1 m1) ∧ Dis hb gb go0 go1 ho0 ho1
theorem Inv.below {w W W' : World} {hb gb : Nat} (h : Inv w W hb gb) (k : Below W.heap.size W W') : Inv w W' hb gb := by
  obtain ⟨go0, go1, ho0, ho1, ⟨a0, a1, ha⟩, ⟨b0, b1, hb'⟩, d⟩ := h.ha
  exact ⟨h.bl.trans (k.mono h.bl.size), go0, go1, ho0, ho1, ⟨a0, a1, ha.kept (S := fun _ => False) (Kp.ofBelow k) (fun _ e => e.elim)⟩, ⟨b0, b1, hb'.kept (S := fun _ => False) (Kp.ofBelow k) (fun _ e => e.elim)⟩, d⟩

/-- A hand's blocks lie ahead of whatever is made later. -/
theorem Hx.lt {W : World} {B hb : Nat} {go0 go1 : Option Addr} {n0 n1 : Nat} (h : Hx W B hb go0 n0 go1 n1) : ∀ j, (j = hb ∨ some j = ownB go0 ∨ some j = ownB go1) → B ≤ j ∧ j < W.heap.size := by
  rintro j (rfl | e | e)
  · exact ⟨h.base, (Array.getElem?_eq_some_iff.1 h.box).1⟩
  · have := h.r0.at _ (own_at h.r0 e); exact ⟨this.1, this.2.1⟩
  · have := h.r1.at _ (own_at h.r1 e); exact ⟨this.1, this.2.1⟩
theorem Hx.own {W : World} {B hb : Nat} {go0 go1 : Option Addr} {n0 n1 : Nat} (h : Hx W B hb go0 n0 go1 n1) {j : Nat} : (go0 = some ⟨j, 0, none⟩ → some j = ownB go0) ∧ (go1 = some ⟨j, 0, none⟩ → some j = ownB go1) := ⟨fun e => by rw [e]; rfl, fun e => by rw [e]; rfl⟩

/-- The second hand is filled: the first one stays, and they have nothing in common. -/
theorem lay_second {w W w2 : World} {B hb gb : Nat} {sn an tn bn : Nat} {s a t b : List Int} {go0 go1 ho0 ho1 : Option Addr} {m0 m1 : Nat} {xo : Option Addr} {xc : Nat} {yo : Option Addr} {yc : Nat} {zo : Option Addr} {zc : Nat} {vo : Option Addr} {vc : Nat} {r0 r1 q0 q1 : Option Addr}
    (h : Lx w W B hb go0 go1 sn an s a xo xc yo yc r0 r1) (g : Hx W B gb ho0 m0 ho1 m1) (d : Dis hb gb go0 go1 ho0 ho1) (hgo : ∀ j, ho0 = some ⟨j, 0, none⟩ ∨ ho1 = some ⟨j, 0, none⟩ → j < w.heap.size)
    (L : Lx W w2 B gb ho0 ho1 tn bn t b zo zc vo vc q0 q1) (k : Kp W w2 (fun b => b = gb ∨ some b = ownB ho0 ∨ some b = ownB ho1)) :
    Lx w w2 B hb go0 go1 sn an s a xo xc yo yc r0 r1 ∧ Dis hb gb r0 r1 q0 q1 := by
  obtain ⟨R0, R1, ⟨v, hv⟩, hB, hl⟩ := h.rows
  obtain ⟨Q0, Q1, _, _, _⟩ := L.rows
  have kind : ∀ j, (j = gb ∨ some j = ownB ho0 ∨ some j = ownB ho1) → B ≤ j ∧ ((j = gb ∧ ∃ c, W.heap[j]? = some (.cells c 28 (0, 0))) ∨ (ho0 = some ⟨j, 0, none⟩ ∧ ∃ c, W.heap[j]? = some (.cells c 3 (0, 0))) ∨ (ho1 = some ⟨j, 0, none⟩ ∧ ∃ c, W.heap[j]? = some (.cells c 2 (0, 0)))) := by
    rintro j (rfl | e | e)
    · exact ⟨g.base, .inl ⟨rfl, _, g.box⟩⟩
    · have e1 := own_at g.r0 e
      obtain ⟨b1, _, c⟩ := g.r0.at _ e1
      exact ⟨b1, .inr (.inl ⟨e1, c⟩)⟩
    · have e1 := own_at g.r1 e
      obtain ⟨b1, _, c⟩ := g.r1.at _ e1
      exact ⟨b1, .inr (.inr ⟨e1, c⟩)⟩
  refine ⟨h.kept k (fun j hh => ⟨(kind j hh).1, fun e => ?_, fun e => ?_, fun e => ?_⟩), ⟨d.ne, fun j e1 e2 => ?_, fun j e1 e2 => ?_⟩⟩
  · subst e
    rcases (kind _ hh).2 with ⟨e, _⟩ | ⟨_, c, hc⟩ | ⟨_, c, hc⟩
    · exact d.ne e
    · exact absurd (kinds hv hc) (by decide)
    · exact absurd (kinds hv hc) (by decide)
  · obtain ⟨_, _, ⟨c, hc⟩, hat⟩ := R0 j e
    rcases (kind _ hh).2 with ⟨_, c', hc'⟩ | ⟨e2, _⟩ | ⟨_, c', hc'⟩
    · exact absurd (kinds hc hc') (by decide)
    · rcases hat with e3 | e3
      · exact d.d0 _ e3 e2
      · have := hgo j (.inl e2); omega
    · exact absurd (kinds hc hc') (by decide)
  · obtain ⟨_, _, ⟨c, hc⟩, hat⟩ := R1 j e
    rcases (kind _ hh).2 with ⟨_, c', hc'⟩ | ⟨_, c', hc'⟩ | ⟨e2, _⟩
    · exact absurd (kinds hc hc') (by decide)
    · exact absurd (kinds hc hc') (by decide)
    · rcases hat with e3 | e3
      · exact d.d1 _ e3 e2
      · have := hgo j (.inr e2); omega
  · obtain ⟨_, l1, _, hat⟩ := R0 j e1
    rcases (Q0 j e2).2.2.2 with e3 | e3
    · rcases hat with e4 | e4
      · exact d.d0 _ e4 e3
      · have := hgo j (.inl e3); omega
    · omega
  · obtain ⟨_, l1, _, hat⟩ := R1 j e1
    rcases (Q1 j e2).2.2.2 with e3 | e3
    · rcases hat with e4 | e4
      · exact d.d1 _ e4 e3
      · have := hgo j (.inr e3); omega
    · omega
/-- Which blocks a hand's rows are. -/
theorem Lx.own {w W : World} {B hb : Nat} {go0 go1 : Option Addr} {sn an : Nat} {s a : List Int} {xo : Option Addr} {xc : Nat} {yo : Option Addr} {yc : Nat} {r0 r1 : Option Addr} (h : Lx w W B hb go0 go1 sn an s a xo xc yo yc r0 r1) : ∀ j, (some j = ownB r0 ∨ some j = ownB r1) → B ≤ j ∧ j < W.heap.size ∧ ((r0 = some ⟨j, 0, none⟩ ∧ ∃ c, W.heap[j]? = some (.cells c 3 (0, 0))) ∨ (r1 = some ⟨j, 0, none⟩ ∧ ∃ c, W.heap[j]? = some (.cells c 2 (0, 0)))) ∧ (go0 = some ⟨j, 0, none⟩ ∨ go1 = some ⟨j, 0, none⟩ ∨ w.heap.size ≤ j) := by
  obtain ⟨R0, R1, _, _, _⟩ := h.rows
  rintro j e
  rcases h.is with ⟨g0, g1, rfl, rfl, _⟩ | ⟨rfl, rfl, _⟩
  · rcases e with e | e
    · cases e
      obtain ⟨b1, l1, c, hat⟩ := R0 _ rfl
      exact ⟨b1, l1, .inl ⟨rfl, c⟩, hat.elim .inl (fun x => .inr (.inr x))⟩
    · cases e
      obtain ⟨b1, l1, c, hat⟩ := R1 _ rfl
      exact ⟨b1, l1, .inr ⟨rfl, c⟩, hat.elim (fun x => .inr (.inl x)) (fun x => .inr (.inr x))⟩
  · rcases e with e | e <;> cases e
/-- The first hand is looked at: the second one stays. -/
theorem kept_first {wa wb W w3 : World} {B hb gb : Nat} {sn an tn bn : Nat} {s a t b : List Int} {go0 go1 ho0 ho1 : Option Addr} {xo : Option Addr} {xc : Nat} {yo : Option Addr} {yc : Nat} {zo : Option Addr} {zc : Nat} {vo : Option Addr} {vc : Nat} {r0 r1 q0 q1 : Option Addr}
    (h : Lx wa W B hb go0 go1 sn an s a xo xc yo yc r0 r1) (g : Lx wb W B gb ho0 ho1 tn bn t b zo zc vo vc q0 q1) (d : Dis hb gb r0 r1 q0 q1) (k : Kp W w3 (fun b => some b = ownB r0 ∨ some b = ownB r1)) : Lx wb w3 B gb ho0 ho1 tn bn t b zo zc vo vc q0 q1 := by
  obtain ⟨Q0, Q1, ⟨v, hv⟩, _, _⟩ := g.rows
  have kind := fun j hh => (h.own j hh)
  refine g.kept k (fun j hh => ⟨(kind j hh).1, fun e => ?_, fun e => ?_, fun e => ?_⟩)
  · subst e
    rcases (kind _ hh).2.2.1 with ⟨_, c, hc⟩ | ⟨_, c, hc⟩
    · exact absurd (kinds hv hc) (by decide)
    · exact absurd (kinds hv hc) (by decide)
  · obtain ⟨_, _, ⟨c, hc⟩, _⟩ := Q0 j e
    rcases (kind _ hh).2.2.1 with ⟨e2, _⟩ | ⟨_, c', hc'⟩
    · exact d.d0 _ e2 e
    · exact absurd (kinds hc hc') (by decide)
  · obtain ⟨_, _, ⟨c, hc⟩, _⟩ := Q1 j e
    rcases (kind _ hh).2.2.1 with ⟨_, c', hc'⟩ | ⟨e2, _⟩
    · exact absurd (kinds hc hc') (by decide)
    · exact d.d1 _ e2 e
/-- The second hand is looked at: the first one stays. -/
theorem kept_second {wb W w3 : World} {B hb gb : Nat} {tn bn : Nat} {t b : List Int} {ho0 ho1 : Option Addr} {zo : Option Addr} {zc : Nat} {vo : Option Addr} {vc : Nat} {r0 r1 q0 q1 : Option Addr} {m0 m1 : Nat}
    (hx : Hx W B hb r0 m0 r1 m1) (g : Lx wb W B gb ho0 ho1 tn bn t b zo zc vo vc q0 q1) (d : Dis hb gb r0 r1 q0 q1) (k : Kp W w3 (fun b => some b = ownB q0 ∨ some b = ownB q1)) : Hx w3 B hb r0 m0 r1 m1 := by
  refine hx.kept k (fun j hh => ?_)
  obtain ⟨_, _, kk, _⟩ := g.own j hh
  rcases kk with ⟨e, c, hc⟩ | ⟨e, c, hc⟩
  · refine ⟨fun e2 => ?_, fun e2 => d.d0 _ e2 e, fun e2 => ?_⟩
    · subst e2; exact absurd (kinds hc hx.box) (by decide)
    · obtain ⟨_, _, c', hc'⟩ := hx.r1.at _ e2
      exact absurd (kinds hc hc') (by decide)
  · refine ⟨fun e2 => ?_, fun e2 => ?_, fun e2 => d.d1 _ e2 e⟩
    · subst e2; exact absurd (kinds hc hx.box) (by decide)
    · obtain ⟨_, _, c', hc'⟩ := hx.r0.at _ e2
      exact absurd (kinds hc hc') (by decide)
end Go.Proofs.YtmepcenbaohcoaaGreat
