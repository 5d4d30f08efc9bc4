
/- A call of the law of layer 3: what is known of its script's entry, of both hands and of the boxes. -/

import Derived.Test.YtkplfnajhinkiaaK3

namespace Go.Proofs.Ytkplfnajhinkiaa

open Go.RowKit

set_option linter.unusedVariables false

/-- One entry of a script, in a box, and its lists. -/
structure Ar (W : World) (B p : Nat) (K N I : Int) (so : Option Addr) (sn sc : Nat) (ao : Option Addr) (an ac : Nat) (uo : Option Addr) (tn tc : Nat) (bo : Option Addr) (bn bc : Nat) (lo : Option Addr) (ln lc : Nat) (s a t b l : List Int) : Prop where
  op : W.heap[p]? = some (.cells #[.int .i64 K, .slice so sn sc, .slice ao an ac, .slice uo tn tc, .slice bo bn bc, .int .i64 N, .int .i64 I, .slice lo ln lc] 57 (0, 0))
  rs : Rd W so sn s
  ra : Rd W ao an a
  rt : Rd W uo tn t
  rb : Rd W bo bn b
  rl : Rd W lo ln l
  ls : (0 < sn → ∀ b off, so = some ⟨b, off, none⟩ → b < B)
  la : (0 < an → ∀ b off, ao = some ⟨b, off, none⟩ → b < B)
  lt : (0 < tn → ∀ b off, uo = some ⟨b, off, none⟩ → b < B)
  lb : (0 < bn → ∀ b off, bo = some ⟨b, off, none⟩ → b < B)
  ll : (0 < ln → ∀ b off, lo = some ⟨b, off, none⟩ → b < B)
  szB : B ≤ W.heap.size
theorem Ar.kept {W W' : World} {B p : Nat} {K N I : Int} {so : Option Addr} {sn sc : Nat} {ao : Option Addr} {an ac : Nat} {uo : Option Addr} {tn tc : Nat} {bo : Option Addr} {bn bc : Nat} {lo : Option Addr} {ln lc : Nat} {s a t b l : List Int} (h : Ar W B p K N I so sn sc ao an ac uo tn tc bo bn bc lo ln lc s a t b l) {S : Nat → Prop} (k : Kp W W' S) (hS : ∀ j, S j → B ≤ j ∧ j ≠ p) : Ar W' B p K N I so sn sc ao an ac uo tn tc bo bn bc lo ln lc s a t b l := by
  have l0 := (Array.getElem?_eq_some_iff.1 h.op).1
  have hB := h.szB
  have kl : ∀ j, j < B → W'.heap[j]? = W.heap[j]? := fun j hj => k.block j (by omega) (fun s => by have := (hS j s).1; omega)
  exact ⟨(k.block p l0 (fun s => (hS p s).2 rfl)).trans h.op, h.rs.low0 h.ls kl k.size, h.ra.low0 h.la kl k.size, h.rt.low0 h.lt kl k.size, h.rb.low0 h.lb kl k.size, h.rl.low0 h.ll kl k.size, h.ls, h.la, h.lt, h.lb, h.ll, Nat.le_trans hB k.size⟩

theorem Hx.kept {W W' : World} {B gb : Nat} {ho0 ho1 : Option Addr} {m0 m1 : Nat} (h : Hx W B gb ho0 m0 ho1 m1) {S : Nat → Prop} (k : Kp W W' S) (hS : ∀ j, S j → j ≠ gb ∧ ho0 ≠ some ⟨j, 0, none⟩ ∧ ho1 ≠ some ⟨j, 0, none⟩) : Hx W' B gb ho0 m0 ho1 m1 := by
  have l := (Array.getElem?_eq_some_iff.1 h.box).1
  exact ⟨(k.block gb l (fun s => (hS gb s).1 rfl)).trans h.box, h.base, h.r0.same (fun g e => k.block g (h.r0.at g e).2.1 (fun s => (hS g s).2.1 e)), h.r1.same (fun g e => k.block g (h.r1.at g e).2.1 (fun s => (hS g s).2.2 e))⟩
theorem own_at {e : TypeId} {W : World} {B : Nat} {go : Option Addr} {n j : Nat} (h : Rw e W B go n) (hj : some j = ownB go) : go = some ⟨j, 0, none⟩ := by
  rcases h.is with ⟨rfl, _⟩ | ⟨g, rfl, _, _⟩
  · cases hj
  · cases hj; rfl

/-- Two hands have no block in common. -/
structure Dis (hb gb : Nat) (go0 go1 ho0 ho1 : Option Addr) : Prop where
  ne : hb ≠ gb
  d0 : ∀ g, go0 = some ⟨g, 0, none⟩ → ho0 ≠ some ⟨g, 0, none⟩
  d1 : ∀ g, go1 = some ⟨g, 0, none⟩ → ho1 ≠ some ⟨g, 0, none⟩
theorem Dis.symm {hb gb : Nat} {go0 go1 ho0 ho1 : Option Addr} (h : Dis hb gb go0 go1 ho0 ho1) : Dis gb hb ho0 ho1 go0 go1 := ⟨Ne.symm h.ne, fun g e f => h.d0 g f e, fun g e f => h.d1 g f e⟩
/-- What one hand's filling may change is none of the other's. -/
theorem Dis.blocks {W : World} {B hb gb : Nat} {go0 go1 ho0 ho1 : Option Addr} {n0 n1 m0 m1 : Nat} (d : Dis hb gb go0 go1 ho0 ho1) (h : Hx W B hb go0 n0 go1 n1) (g : Hx W B gb ho0 m0 ho1 m1) : ∀ j, (j = hb ∨ some j = ownB go0 ∨ some j = ownB go1) → B ≤ j ∧ j < W.heap.size ∧ j ≠ gb ∧ ho0 ≠ some ⟨j, 0, none⟩ ∧ ho1 ≠ some ⟨j, 0, none⟩ := by
  rintro j (rfl | e | e)
  · refine ⟨h.base, (Array.getElem?_eq_some_iff.1 h.box).1, d.ne, fun e => ?_, fun e => ?_⟩
    · obtain ⟨_, _, c, hc⟩ := g.r0.at _ e
      exact absurd (kinds hc h.box) (by decide)
    · obtain ⟨_, _, c, hc⟩ := g.r1.at _ e
      exact absurd (kinds hc h.box) (by decide)
  · have e1 := own_at h.r0 e
    obtain ⟨b1, b2, c, hc⟩ := h.r0.at _ e1
    refine ⟨b1, b2, fun e2 => ?_, d.d0 _ e1, fun e2 => ?_⟩
    · subst e2; exact absurd (kinds hc g.box) (by decide)
    · obtain ⟨_, _, c', hc'⟩ := g.r1.at _ e2
      exact absurd (kinds hc hc') (by decide)
  · have e1 := own_at h.r1 e
    obtain ⟨b1, b2, c, hc⟩ := h.r1.at _ e1
    refine ⟨b1, b2, fun e2 => ?_, fun e2 => ?_, d.d1 _ e1⟩
    · subst e2; exact absurd (kinds hc g.box) (by decide)
    · obtain ⟨_, _, c', hc'⟩ := g.r0.at _ e2
      exact absurd (kinds hc hc') (by decide)

/-- The rows of a hand that was filled. -/
theorem Lx.rows {w W : World} {B hb : Nat} {go0 go1 : Option Addr} {sn an : Nat} {sh at' : List Int} {xo : Option Addr} {xc : Nat} {yo : Option Addr} {yc : Nat} {r0 r1 : Option Addr} (h : Lx w W B hb go0 go1 sn an sh at' xo xc yo yc r0 r1) :
    (∀ g, r0 = some ⟨g, 0, none⟩ → B ≤ g ∧ g < W.heap.size ∧ (∃ c, W.heap[g]? = some (.cells c 3 (0, 0))) ∧ (go0 = some ⟨g, 0, none⟩ ∨ w.heap.size ≤ g)) ∧ (∀ g, r1 = some ⟨g, 0, none⟩ → B ≤ g ∧ g < W.heap.size ∧ (∃ c, W.heap[g]? = some (.cells c 2 (0, 0))) ∧ (go1 = some ⟨g, 0, none⟩ ∨ w.heap.size ≤ g)) ∧ (∃ v, W.heap[hb]? = some (.cells v 52 (0, 0))) ∧ B ≤ hb ∧ hb < W.heap.size := by
  rcases h.is with ⟨g0, g1, rfl, rfl, rfl, rfl, L⟩ | ⟨rfl, rfl, X, _, _⟩
  · refine ⟨fun g e => ?_, fun g e => ?_, ⟨_, L.box⟩, L.base, (Array.getElem?_eq_some_iff.1 L.box).1⟩
    · cases e; obtain ⟨c, hc, _⟩ := L.p0.blk; exact ⟨L.b0, L.p0.lt, ⟨c, hc⟩, L.a0⟩
    · cases e; obtain ⟨c, hc, _⟩ := L.p1.blk; exact ⟨L.b1, L.p1.lt, ⟨c, hc⟩, L.a1⟩
  · exact ⟨fun g e => (by cases e), fun g e => (by cases e), ⟨_, X.box⟩, X.base, (Array.getElem?_eq_some_iff.1 X.box).1⟩

/-- Between the hands' filling and their being looked at. -/
structure Pl (wa wb W : World) (B hb gb p pa pb : Nat) (K N I : Int) (so : Option Addr) (sn sc : Nat) (ao : Option Addr) (an ac : Nat) (uo : Option Addr) (tn tc : Nat) (bo : Option Addr) (bn bc : Nat) (lo : Option Addr) (ln lc : Nat) (s a t b l : List Int) (go0 go1 ho0 ho1 : Option Addr) (xo : Option Addr) (xc : Nat) (yo : Option Addr) (yc : Nat) (zo : Option Addr) (zc : Nat) (vo : Option Addr) (vc : Nat) (r0 r1 q0 q1 : Option Addr) : Prop where
  ar : Ar W B p K N I so sn sc ao an ac uo tn tc bo bn bc lo ln lc s a t b l
  ab : W.heap[pa]? = some (.cells #[.slice xo sn xc, .slice yo an yc] 55 (0, 0))
  bb : W.heap[pb]? = some (.cells #[.slice zo tn zc, .slice vo bn vc] 55 (0, 0))
  h : Lx wa W B hb go0 go1 sn an s a xo xc yo yc r0 r1
  g : Lx wb W B gb ho0 ho1 tn bn t b zo zc vo vc q0 q1
  dis : Dis hb gb r0 r1 q0 q1

theorem Pl.below {wa wb W : World} {B hb gb p pa pb : Nat} {K N I : Int} {so : Option Addr} {sn sc : Nat} {ao : Option Addr} {an ac : Nat} {uo : Option Addr} {tn tc : Nat} {bo : Option Addr} {bn bc : Nat} {lo : Option Addr} {ln lc : Nat} {s a t b l : List Int} {go0 go1 ho0 ho1 : Option Addr} {xo : Option Addr} {xc : Nat} {yo : Option Addr} {yc : Nat} {zo : Option Addr} {zc : Nat} {vo : Option Addr} {vc : Nat} {r0 r1 q0 q1 : Option Addr} {W' : World} (h : Pl wa wb W B hb gb p pa pb K N I so sn sc ao an ac uo tn tc bo bn bc lo ln lc s a t b l go0 go1 ho0 ho1 xo xc yo yc zo zc vo vc r0 r1 q0 q1) (k : Below W.heap.size W W') : Pl wa wb W' B hb gb p pa pb K N I so sn sc ao an ac uo tn tc bo bn bc lo ln lc s a t b l go0 go1 ho0 ho1 xo xc yo yc zo zc vo vc r0 r1 q0 q1 := by
  have l1 := (Array.getElem?_eq_some_iff.1 h.ab).1
  have l2 := (Array.getElem?_eq_some_iff.1 h.bb).1
  exact ⟨h.ar.kept (S := fun _ => False) (Kp.ofBelow k) (fun _ e => e.elim), (k.block pa l1).trans h.ab, (k.block pb l2).trans h.bb, h.h.below k, h.g.below k, h.dis⟩
theorem Pl.drew {wa wb W : World} {B hb gb p pa pb : Nat} {K N I : Int} {so : Option Addr} {sn sc : Nat} {ao : Option Addr} {an ac : Nat} {uo : Option Addr} {tn tc : Nat} {bo : Option Addr} {bn bc : Nat} {lo : Option Addr} {ln lc : Nat} {s a t b l : List Int} {go0 go1 ho0 ho1 : Option Addr} {xo : Option Addr} {xc : Nat} {yo : Option Addr} {yc : Nat} {zo : Option Addr} {zc : Nat} {vo : Option Addr} {vc : Nat} {r0 r1 q0 q1 : Option Addr} (h : Pl wa wb W B hb gb p pa pb K N I so sn sc ao an ac uo tn tc bo bn bc lo ln lc s a t b l go0 go1 ho0 ho1 xo xc yo yc zo zc vo vc r0 r1 q0 q1) : Pl wa wb W.drew B hb gb p pa pb K N I so sn sc ao an ac uo tn tc bo bn bc lo ln lc s a t b l go0 go1 ho0 ho1 xo xc yo yc zo zc vo vc r0 r1 q0 q1 := h.below (Below.refl _ W).drew

/-- The first hand is filled: what is known then. -/
theorem pl_first {w w1 : World} {B hb gb : Nat} {K N I : Int} {so : Option Addr} {sn sc : Nat} {ao : Option Addr} {an ac : Nat} {uo : Option Addr} {tn tc : Nat} {bo : Option Addr} {bn bc : Nat} {lo : Option Addr} {ln lc : Nat} {s a t b l : List Int} {go0 go1 ho0 ho1 : Option Addr} {n0 n1 m0 m1 : Nat} {xo : Option Addr} {xc : Nat} {yo : Option Addr} {yc : Nat} {r0 r1 : Option Addr} {p : Nat}
    (A : Ar w B p K N I so sn sc ao an ac uo tn tc bo bn bc lo ln lc s a t b l) (h : Hx w B hb go0 n0 go1 n1) (g : Hx w B gb ho0 m0 ho1 m1) (d : Dis hb gb go0 go1 ho0 ho1) (L : Lx w w1 B hb go0 go1 sn an s a xo xc yo yc r0 r1) (k : Kp w w1 (fun b => b = hb ∨ some b = ownB go0 ∨ some b = ownB go1)) :
    Ar w1 B p K N I so sn sc ao an ac uo tn tc bo bn bc lo ln lc s a t b l ∧ Hx w1 B gb ho0 m0 ho1 m1 := by
  have hbk := d.blocks h g
  refine ⟨A.kept k (fun j s => ⟨(hbk j s).1, fun e => ?_⟩), g.kept k (fun j s => (hbk j s).2.2)⟩
  subst e
  rcases s with e | e | e
  · subst e; exact absurd (kinds A.op h.box) (by decide)
  · obtain ⟨_, _, c, hc⟩ := h.r0.at _ (own_at h.r0 e)
    exact absurd (kinds A.op hc) (by decide)
  · obtain ⟨_, _, c, hc⟩ := h.r1.at _ (own_at h.r1 e)
    exact absurd (kinds A.op hc) (by decide)

/-- The second hand is filled: what is known then. -/
theorem pl_second {w W w2 : World} {B hb gb : Nat} {K N I : Int} {so : Option Addr} {sn sc : Nat} {ao : Option Addr} {an ac : Nat} {uo : Option Addr} {tn tc : Nat} {bo : Option Addr} {bn bc : Nat} {lo : Option Addr} {ln lc : Nat} {s a t b l : List Int} {go0 go1 ho0 ho1 : Option Addr} {m0 m1 : Nat} {xo : Option Addr} {xc : Nat} {yo : Option Addr} {yc : Nat} {zo : Option Addr} {zc : Nat} {vo : Option Addr} {vc : Nat} {r0 r1 q0 q1 : Option Addr} {p pa : Nat}
    (A : Ar W B p K N I so sn sc ao an ac uo tn tc bo bn bc lo ln lc s a t b l) (ab : W.heap[pa]? = some (.cells #[.slice xo sn xc, .slice yo an yc] 55 (0, 0))) (h : Lx w W B hb go0 go1 sn an s a xo xc yo yc r0 r1) (g : Hx W B gb ho0 m0 ho1 m1) (d : Dis hb gb go0 go1 ho0 ho1) (hgo : ∀ j, ho0 = some ⟨j, 0, none⟩ ∨ ho1 = some ⟨j, 0, none⟩ → j < w.heap.size)
    (L : Lx W w2 B gb ho0 ho1 tn bn t b zo zc vo vc q0 q1) (k : Kp W w2 (fun b => b = gb ∨ some b = ownB ho0 ∨ some b = ownB ho1)) :
    Ar w2 B p K N I so sn sc ao an ac uo tn tc bo bn bc lo ln lc s a t b l ∧ w2.heap[pa]? = some (.cells #[.slice xo sn xc, .slice yo an yc] 55 (0, 0)) ∧ Lx w w2 B hb go0 go1 sn an s a xo xc yo yc r0 r1 ∧ Dis hb gb r0 r1 q0 q1 := by
  obtain ⟨R0, R1, ⟨v, hv⟩, hB, hl⟩ := h.rows
  obtain ⟨Q0, Q1, _, _, _⟩ := L.rows
  have la := (Array.getElem?_eq_some_iff.1 ab).1
  -- of which kind each block is that changes
  have kind : ∀ j, (j = gb ∨ some j = ownB ho0 ∨ some j = ownB ho1) → B ≤ j ∧ ((j = gb ∧ ∃ c, W.heap[j]? = some (.cells c 52 (0, 0))) ∨ (ho0 = some ⟨j, 0, none⟩ ∧ ∃ c, W.heap[j]? = some (.cells c 3 (0, 0))) ∨ (ho1 = some ⟨j, 0, none⟩ ∧ ∃ c, W.heap[j]? = some (.cells c 2 (0, 0)))) := by
    rintro j (rfl | e | e)
    · exact ⟨g.base, .inl ⟨rfl, _, g.box⟩⟩
    · have e1 := own_at g.r0 e
      obtain ⟨b1, _, c⟩ := g.r0.at _ e1
      exact ⟨b1, .inr (.inl ⟨e1, c⟩)⟩
    · have e1 := own_at g.r1 e
      obtain ⟨b1, _, c⟩ := g.r1.at _ e1
      exact ⟨b1, .inr (.inr ⟨e1, c⟩)⟩
  have no : ∀ j (x : Array Value) (e : TypeId), W.heap[j]? = some (.cells x e (0, 0)) → e ≠ 52 → e ≠ 3 → e ≠ 2 → ¬ (j = gb ∨ some j = ownB ho0 ∨ some j = ownB ho1) := by
    intro j x e hj n1 n2 n3 hh
    rcases (kind j hh).2 with ⟨_, c, hc⟩ | ⟨_, c, hc⟩ | ⟨_, c, hc⟩
    · exact n1 (kinds hj hc)
    · exact n2 (kinds hj hc)
    · exact n3 (kinds hj hc)
  refine ⟨A.kept k (fun j hh => ⟨(kind j hh).1, fun e => ?_⟩), (k.block pa la (no pa _ _ ab (by decide) (by decide) (by decide))).trans ab, h.kept k (fun j hh => ⟨(kind j hh).1, fun e => ?_, fun e => ?_, fun e => ?_⟩), ⟨d.ne, fun j e1 e2 => ?_, fun j e1 e2 => ?_⟩⟩
  · subst e; exact no _ _ _ A.op (by decide) (by decide) (by decide) hh
  · subst e
    rcases (kind _ hh).2 with ⟨e, _⟩ | ⟨_, c, hc⟩ | ⟨_, c, hc⟩
    · exact d.ne e
    · exact absurd (kinds hv hc) (by decide)
    · exact absurd (kinds hv hc) (by decide)
  · obtain ⟨_, _, ⟨c, hc⟩, hat⟩ := R0 j e
    rcases (kind _ hh).2 with ⟨_, c', hc'⟩ | ⟨e2, _⟩ | ⟨_, c', hc'⟩
    · exact absurd (kinds hc hc') (by decide)
    · rcases hat with e3 | e3
      · exact d.d0 _ e3 e2
      · have := hgo j (.inl e2); omega
    · exact absurd (kinds hc hc') (by decide)
  · obtain ⟨_, _, ⟨c, hc⟩, hat⟩ := R1 j e
    rcases (kind _ hh).2 with ⟨_, c', hc'⟩ | ⟨_, c', hc'⟩ | ⟨e2, _⟩
    · exact absurd (kinds hc hc') (by decide)
    · exact absurd (kinds hc hc') (by decide)
    · rcases hat with e3 | e3
      · exact d.d1 _ e3 e2
      · have := hgo j (.inr e2); omega
  · obtain ⟨_, l1, _, hat⟩ := R0 j e1
    rcases (Q0 j e2).2.2.2 with e3 | e3
    · rcases hat with e4 | e4
      · exact d.d0 _ e4 e3
      · have := hgo j (.inl e3); omega
    · omega
  · obtain ⟨_, l1, _, hat⟩ := R1 j e1
    rcases (Q1 j e2).2.2.2 with e3 | e3
    · rcases hat with e4 | e4
      · exact d.d1 _ e4 e3
      · have := hgo j (.inr e3); omega
    · omega

/-- The first hand was looked at: what is known then. -/
theorem pl_third {wa wb W : World} {B hb gb p pa pb : Nat} {K N I : Int} {so : Option Addr} {sn sc : Nat} {ao : Option Addr} {an ac : Nat} {uo : Option Addr} {tn tc : Nat} {bo : Option Addr} {bn bc : Nat} {lo : Option Addr} {ln lc : Nat} {s a t b l : List Int} {go0 go1 ho0 ho1 : Option Addr} {xo : Option Addr} {xc : Nat} {yo : Option Addr} {yc : Nat} {zo : Option Addr} {zc : Nat} {vo : Option Addr} {vc : Nat} {r0 r1 q0 q1 : Option Addr} {w3 : World} (P : Pl wa wb W B hb gb p pa pb K N I so sn sc ao an ac uo tn tc bo bn bc lo ln lc s a t b l go0 go1 ho0 ho1 xo xc yo yc zo zc vo vc r0 r1 q0 q1) (k : Kp W w3 (fun b => some b = ownB r0 ∨ some b = ownB r1)) : Ar w3 B p K N I so sn sc ao an ac uo tn tc bo bn bc lo ln lc s a t b l ∧ Lx wb w3 B gb ho0 ho1 tn bn t b zo zc vo vc q0 q1 := by
  obtain ⟨R0, R1, _, _, _⟩ := P.h.rows
  obtain ⟨Q0, Q1, ⟨v, hv⟩, _, _⟩ := P.g.rows
  have sh0 : ∀ j, some j = ownB r0 → r0 = some ⟨j, 0, none⟩ := by
    intro j e
    rcases P.h.is with ⟨g0, g1, rfl, rfl, _⟩ | ⟨rfl, _⟩
    · cases e; rfl
    · cases e
  have sh1 : ∀ j, some j = ownB r1 → r1 = some ⟨j, 0, none⟩ := by
    intro j e
    rcases P.h.is with ⟨g0, g1, rfl, rfl, _⟩ | ⟨_, rfl, _⟩
    · cases e; rfl
    · cases e
  have kind : ∀ j, (some j = ownB r0 ∨ some j = ownB r1) → B ≤ j ∧ ((r0 = some ⟨j, 0, none⟩ ∧ ∃ c, W.heap[j]? = some (.cells c 3 (0, 0))) ∨ (r1 = some ⟨j, 0, none⟩ ∧ ∃ c, W.heap[j]? = some (.cells c 2 (0, 0)))) := by
    rintro j (e | e)
    · obtain ⟨b1, _, c, _⟩ := R0 j (sh0 j e); exact ⟨b1, .inl ⟨sh0 j e, c⟩⟩
    · obtain ⟨b1, _, c, _⟩ := R1 j (sh1 j e); exact ⟨b1, .inr ⟨sh1 j e, c⟩⟩
  refine ⟨P.ar.kept k (fun j hh => ⟨(kind j hh).1, fun e => ?_⟩), P.g.kept k (fun j hh => ⟨(kind j hh).1, fun e => ?_, fun e => ?_, fun e => ?_⟩)⟩
  · subst e
    rcases (kind _ hh).2 with ⟨_, c, hc⟩ | ⟨_, c, hc⟩
    · exact absurd (kinds P.ar.op hc) (by decide)
    · exact absurd (kinds P.ar.op hc) (by decide)
  · subst e
    rcases (kind _ hh).2 with ⟨_, c, hc⟩ | ⟨_, c, hc⟩
    · exact absurd (kinds hv hc) (by decide)
    · exact absurd (kinds hv hc) (by decide)
  · obtain ⟨_, _, ⟨c, hc⟩, _⟩ := Q0 j e
    rcases (kind _ hh).2 with ⟨e2, _⟩ | ⟨_, c', hc'⟩
    · exact P.dis.d0 _ e2 e
    · exact absurd (kinds hc hc') (by decide)
  · obtain ⟨_, _, ⟨c, hc⟩, _⟩ := Q1 j e
    rcases (kind _ hh).2 with ⟨_, c', hc'⟩ | ⟨e2, _⟩
    · exact absurd (kinds hc hc') (by decide)
    · exact P.dis.d1 _ e2 e
end Go.Proofs.Ytkplfnajhinkiaa
