
/- A hand, whatever array is handed in: filled, and looked at. -/

import Derived.Test.YtkplfnajhinkiaaK2
import Derived.Test.YtkplfnajhinkiaaH5
import Derived.Test.YtkplfnajhinkiaaH6



namespace Go.Proofs.Ytkplfnajhinkiaa

open Go.RowKit

set_option linter.unusedVariables false

/-- What a row of a hand became: none, the one that it was, or a new one. -/
def Came' (w : World) (go go' : Option Addr) : Prop := go' = none ∨ go' = go ∨ ∃ g, go' = some ⟨g, 0, none⟩ ∧ w.heap.size ≤ g

/-- An array as it is handed in: in the hand, or (a long one) as it is. -/
structure Lx (w W : World) (B hb : Nat) (go0 go1 : Option Addr) (sn an : Nat) (sh at' : List Int) (xo : Option Addr) (xc : Nat) (yo : Option Addr) (yc : Nat) (r0 r1 : Option Addr) : Prop where
  is : (∃ g0 g1, r0 = some ⟨g0, 0, none⟩ ∧ r1 = some ⟨g1, 0, none⟩ ∧ xo = r0 ∧ yo = r1 ∧ Ld w W B hb go0 go1 sn an sh at' g0 xc g1 yc) ∨ (r0 = none ∧ r1 = none ∧ Hx W B hb none 0 none 0 ∧ (0 < sn → ∀ b off, xo = some ⟨b, off, none⟩ → b < B) ∧ (0 < an → ∀ b off, yo = some ⟨b, off, none⟩ → b < B))
  s : Rd W xo sn sh
  a : Rd W yo an at'
  ss : Sl xo sn xc
  sa : Sl yo an yc
  szB : B ≤ W.heap.size

section
variable {w W W' : World} {B hb : Nat} {go0 go1 : Option Addr} {sn an : Nat} {sh at' : List Int} {xo : Option Addr} {xc : Nat} {yo : Option Addr} {yc : Nat} {r0 r1 : Option Addr}

/-- It stays where none of its own blocks, and nothing ahead of B, changes. -/
theorem Lx.kept (h : Lx w W B hb go0 go1 sn an sh at' xo xc yo yc r0 r1) {S : Nat → Prop} (k : Kp W W' S) (hS : ∀ j, S j → B ≤ j ∧ j ≠ hb ∧ r0 ≠ some ⟨j, 0, none⟩ ∧ r1 ≠ some ⟨j, 0, none⟩) : Lx w W' B hb go0 go1 sn an sh at' xo xc yo yc r0 r1 := by
  have hB := h.szB
  have hk := k.size
  rcases h.is with ⟨g0, g1, rfl, rfl, rfl, rfl, L⟩ | ⟨e0, e1, X, ls, la⟩
  · have L' := L.kept k (fun j s => ⟨(hS j s).2.1, fun e => (hS j s).2.2.1 (by rw [e]), fun e => (hS j s).2.2.2 (by rw [e])⟩)
    have l0 := L.l0
    have l1 := L.l1
    exact ⟨.inl ⟨g0, g1, rfl, rfl, rfl, rfl, L'⟩, L'.p0.rd (by omega) h.s.len h.s.room h.s.num (fun j hj => by unfold mrk; rw [if_pos hj]), L'.p1.rd (by omega) h.a.len h.a.room h.a.num (fun j hj => by unfold mrk; rw [if_pos hj]), h.ss, h.sa, by omega⟩
  · have l := (Array.getElem?_eq_some_iff.1 X.box).1
    exact ⟨.inr ⟨e0, e1, ⟨(k.block hb l (fun s => (hS hb s).2.1 rfl)).trans X.box, X.base, Rw.nil _ _ _, Rw.nil _ _ _⟩, ls, la⟩, h.s.low0 ls (fun j hj => k.block j (by omega) (fun s => by have := (hS j s).1; omega)) k.size, h.a.low0 la (fun j hj => k.block j (by omega) (fun s => by have := (hS j s).1; omega)) k.size, h.ss, h.sa, by omega⟩
theorem Lx.below (h : Lx w W B hb go0 go1 sn an sh at' xo xc yo yc r0 r1) (k : Below W.heap.size W W') : Lx w W' B hb go0 go1 sn an sh at' xo xc yo yc r0 r1 :=
  h.kept (S := fun _ => False) (Kp.ofBelow k) (fun _ e => e.elim)
end

theorem ld_lx {w W : World} {B hb : Nat} {go0 go1 : Option Addr} {sn an : Nat} {sh at' : List Int} {g0 c0 g1 c1 : Nat} (L : Ld w W B hb go0 go1 sn an sh at' g0 c0 g1 c1) {so ao : Option Addr} {w0 w1 : World} (hs : Rd w0 so sn sh) (ha : Rd w1 ao an at') (hB : B ≤ W.heap.size) : Lx w W B hb go0 go1 sn an sh at' (some ⟨g0, 0, none⟩) c0 (some ⟨g1, 0, none⟩) c1 (some ⟨g0, 0, none⟩) (some ⟨g1, 0, none⟩) := by
  have l0 := L.l0
  have l1 := L.l1
  exact ⟨.inl ⟨g0, g1, rfl, rfl, rfl, rfl, L⟩, L.p0.rd (by omega) hs.len hs.room hs.num (fun j hj => by unfold mrk; rw [if_pos hj]), L.p1.rd (by omega) ha.len ha.room ha.num (fun j hj => by unfold mrk; rw [if_pos hj]), ⟨fun e => (by cases e), by omega, L.p0.le⟩, ⟨fun e => (by cases e), by omega, L.p1.le⟩, hB⟩

/-- Lay: any array. -/
theorem lay_any (hb B : Nat) (go0 go1 : Option Addr) (n0 n1 : Nat) (so ao : Option Addr) (sn sc an ac : Nat) (sh at' : List Int) (w : World) (hx : Hx w B hb go0 n0 go1 n1) (hs : Rd w so sn sh) (ss : Sl so sn sc) (ha : Rd w ao an at') (sa : Sl ao an ac) (ls : 0 < sn → ∀ b off, so = some ⟨b, off, none⟩ → b < B) (la : 0 < an → ∀ b off, ao = some ⟨b, off, none⟩ → b < B) (hB : B ≤ w.heap.size) :
    Calls Try.prog 69 #[.pointer (some ⟨hb, 0, none⟩), .agg #[.slice so sn sc, .slice ao an ac]] w fun e w' => ∃ xo xc yo yc r0 r1, e = .returned (.agg #[.slice xo sn xc, .slice yo an yc]) ∧ Lx w w' B hb go0 go1 sn an sh at' xo xc yo yc r0 r1 ∧ Kp w w' (fun b => b = hb ∨ some b = ownB go0 ∨ some b = ownB go1) := by
  by_cases hl : sn ≤ 5000 ∧ an ≤ 5000
  · by_cases f0 : n0 ≤ sn + 70000
    · by_cases f1 : n1 ≤ an + 70000
      · exact (lay_fit hb B go0 go1 n0 n1 so ao sn sc an ac sh at' w hx hs ss ha sa ls la hB hl.1 hl.2 f0 f1).mono fun e w' ⟨g0, c0, g1, c1, x1, x2, x3⟩ => ⟨_, c0, _, c1, _, _, x1, ld_lx x2 hs ha (Nat.le_trans hB x3.size), x3⟩
      · exact (lay_big2 hb B go0 go1 n0 n1 so ao sn sc an ac sh at' w hx hs ss ha sa ls la hB hl.1 hl.2 f0 (by omega)).mono fun e w' ⟨g0, c0, g1, c1, x1, x2, x3⟩ => ⟨_, c0, _, c1, _, _, x1, ld_lx x2 hs ha (Nat.le_trans hB x3.size), x3⟩
    · exact (lay_big1 hb B go0 go1 n0 n1 so ao sn sc an ac sh at' w hx hs ss ha sa ls la hB hl.1 hl.2 (by omega)).mono fun e w' ⟨g0, c0, g1, c1, x1, x2, x3⟩ => ⟨_, c0, _, c1, _, _, x1, ld_lx x2 hs ha (Nat.le_trans hB x3.size), x3⟩
  · refine (lay_long hb B go0 go1 n0 n1 so ao sn sc an ac w hx hl).mono fun e w' ⟨x1, x2, x3⟩ => ⟨so, sc, ao, ac, none, none, x1, ?_, x3.wide (fun j e => .inl e)⟩
    have hbb := hx.base
    exact ⟨.inr ⟨rfl, rfl, x2, ls, la⟩, hs.low0 ls (fun j hj => x3.block j (by omega) (fun e => by omega)) x3.size, ha.low0 la (fun j hj => x3.block j (by omega) (fun e => by omega)) x3.size, ss, sa, Nat.le_trans hB x3.size⟩

/-- Kept: any array that was handed in. -/
theorem keptx_any (hb B : Nat) (go0 go1 : Option Addr) (so ao : Option Addr) (sn sc an ac : Nat) (sh at' : List Int) (xo : Option Addr) (xc : Nat) (yo : Option Addr) (yc : Nat) (r0 r1 : Option Addr) (w0 w : World) (h : Lx w0 w B hb go0 go1 sn an sh at' xo xc yo yc r0 r1) (hs : Rd w so sn sh) (ha : Rd w ao an at') (ls : 0 < sn → ∀ b off, so = some ⟨b, off, none⟩ → b < B) (la : 0 < an → ∀ b off, ao = some ⟨b, off, none⟩ → b < B) :
    Calls Try.prog 79 #[.pointer (some ⟨hb, 0, none⟩), .agg #[.slice so sn sc, .slice ao an ac]] w fun e w' => e = .returned (.bool true) ∧ (∃ m0 m1, Hx w' B hb r0 m0 r1 m1) ∧ Kp w w' (fun b => some b = ownB r0 ∨ some b = ownB r1) ∧ Came' w0 go0 r0 ∧ Came' w0 go1 r1 := by
  have hB := h.szB
  rcases h.is with ⟨g0, g1, rfl, rfl, rfl, rfl, L⟩ | ⟨rfl, rfl, X, l1, l2⟩
  · refine (kept3_any hb B go0 go1 so ao sn sc an ac sh at' g0 xc g1 yc w0 w L hs ha ls la (by omega)).mono fun e w' ⟨x1, x2, x3⟩ => ⟨x1, ⟨_, _, x2⟩, x3.wide (fun j e => ?_), ?_, ?_⟩
    · rcases e with rfl | rfl
      · exact .inl rfl
      · exact .inr rfl
    · rcases L.a0 with e | e
      · exact .inr (.inl e.symm)
      · exact .inr (.inr ⟨g0, rfl, e⟩)
    · rcases L.a1 with e | e
      · exact .inr (.inl e.symm)
      · exact .inr (.inr ⟨g1, rfl, e⟩)
  · refine (kept3_nil hb B so ao sn sc an ac w X).mono fun e w' ⟨x1, x2⟩ => ⟨x1, ⟨0, 0, ?_⟩, Kp.ofBelow x2, .inl rfl, .inl rfl⟩
    have l := (Array.getElem?_eq_some_iff.1 X.box).1
    exact ⟨(x2.block hb l).trans X.box, X.base, Rw.nil _ _ _, Rw.nil _ _ _⟩
end Go.Proofs.Ytkplfnajhinkiaa
