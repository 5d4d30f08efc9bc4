
/- A call of the law of layer 3: the hands are filled, and looked at: four calls. -/

import Derived.Test.YtkplfnajhinkiaaP2

namespace Go.Proofs.Ytkplfnajhinkiaa

open Go.RowKit

set_option linter.unusedVariables false

/-- The first hand is filled. -/
structure S1 (w0 W : World) (B hb gb p : Nat) (K N I : Int) (so : Option Addr) (sn sc : Nat) (ao : Option Addr) (an ac : Nat) (uo : Option Addr) (tn tc : Nat) (bo : Option Addr) (bn bc : Nat) (lo : Option Addr) (ln lc : Nat) (s a t b l : List Int) (go0 go1 ho0 ho1 : Option Addr) (m0 m1 : Nat) (xo : Option Addr) (xc : Nat) (yo : Option Addr) (yc : Nat) (r0 r1 : Option Addr) : Prop where
  ar : Ar W B p K N I so sn sc ao an ac uo tn tc bo bn bc lo ln lc s a t b l
  h : Lx w0 W B hb go0 go1 sn an s a xo xc yo yc r0 r1
  g : Hx W B gb ho0 m0 ho1 m1
  d : Dis hb gb go0 go1 ho0 ho1
  hgo : ∀ j, ho0 = some ⟨j, 0, none⟩ ∨ ho1 = some ⟨j, 0, none⟩ → j < w0.heap.size
  bel : Below B w0 W
theorem below_to {B : Nat} {a b c : World} (h : Below B a b) (k : Below b.heap.size b c) (hB : B ≤ a.heap.size) : Below B a c := ⟨k.os.trans h.os, k.tape.trans h.tape, k.output.trans h.output, Nat.le_trans h.size k.size, fun j hj => (k.block j (by have := h.size; omega)).trans (h.block j hj)⟩
theorem below_tr {B : Nat} {a b c : World} (h : Below B a b) (k : Below B b c) : Below B a c := ⟨k.os.trans h.os, k.tape.trans h.tape, k.output.trans h.output, Nat.le_trans h.size k.size, fun j hj => (k.block j hj).trans (h.block j hj)⟩
theorem S1.below {w0 W : World} {B hb gb p : Nat} {K N I : Int} {so : Option Addr} {sn sc : Nat} {ao : Option Addr} {an ac : Nat} {uo : Option Addr} {tn tc : Nat} {bo : Option Addr} {bn bc : Nat} {lo : Option Addr} {ln lc : Nat} {s a t b l : List Int} {go0 go1 ho0 ho1 : Option Addr} {m0 m1 : Nat} {xo : Option Addr} {xc : Nat} {yo : Option Addr} {yc : Nat} {r0 r1 : Option Addr} {W' : World} (h : S1 w0 W B hb gb p K N I so sn sc ao an ac uo tn tc bo bn bc lo ln lc s a t b l go0 go1 ho0 ho1 m0 m1 xo xc yo yc r0 r1) (hB : B ≤ w0.heap.size) (k : Below W.heap.size W W') : S1 w0 W' B hb gb p K N I so sn sc ao an ac uo tn tc bo bn bc lo ln lc s a t b l go0 go1 ho0 ho1 m0 m1 xo xc yo yc r0 r1 :=
  ⟨h.ar.kept (S := fun _ => False) (Kp.ofBelow k) (fun _ e => e.elim), h.h.below k, h.g.kept (S := fun _ => False) (Kp.ofBelow k) (fun _ e => e.elim), h.d, h.hgo, below_to h.bel k hB⟩

theorem call_lay1 {w0 : World} {p : Nat} {hb gb B : Nat} {K N I : Int} {so : Option Addr} {sn sc : Nat} {ao : Option Addr} {an ac : Nat} {uo : Option Addr} {tn tc : Nat} {bo : Option Addr} {bn bc : Nat} {lo : Option Addr} {ln lc : Nat} {s a t b l : List Int} {go0 go1 ho0 ho1 : Option Addr} {n0 n1 m0 m1 : Nat} (A : Ar w0 B p K N I so sn sc ao an ac uo tn tc bo bn bc lo ln lc s a t b l) (h : Hx w0 B hb go0 n0 go1 n1) (g : Hx w0 B gb ho0 m0 ho1 m1) (d : Dis hb gb go0 go1 ho0 ho1) (ss : Sl so sn sc) (sa : Sl ao an ac) :
    Calls Try.prog 69 #[.pointer (some ⟨hb, 0, none⟩), .agg #[.slice so sn sc, .slice ao an ac]] w0 fun e w' => ∃ xo xc yo yc r0 r1, e = .returned (.agg #[.slice xo sn xc, .slice yo an yc]) ∧ S1 w0 w' B hb gb p K N I so sn sc ao an ac uo tn tc bo bn bc lo ln lc s a t b l go0 go1 ho0 ho1 m0 m1 xo xc yo yc r0 r1 := by
  refine (lay_any hb B go0 go1 n0 n1 so ao sn sc an ac s a w0 h A.rs ss A.ra sa A.ls A.la A.szB).mono fun e w' ⟨xo, xc, yo, yc, r0, r1, e1, L, k⟩ => ⟨xo, xc, yo, yc, r0, r1, e1, ?_⟩
  obtain ⟨A1, G1⟩ := pl_first A h g d L k
  refine ⟨A1, L, G1, d, ?_, k.below A.szB (fun j hj s => ?_)⟩
  · rintro j (e | e)
    · exact (g.r0.at _ e).2.1
    · exact (g.r1.at _ e).2.1
  · have := (d.blocks h g j s).1; omega

theorem call_lay2 {w0 W : World} {B hb gb p : Nat} {K N I : Int} {so : Option Addr} {sn sc : Nat} {ao : Option Addr} {an ac : Nat} {uo : Option Addr} {tn tc : Nat} {bo : Option Addr} {bn bc : Nat} {lo : Option Addr} {ln lc : Nat} {s a t b l : List Int} {go0 go1 ho0 ho1 : Option Addr} {m0 m1 : Nat} {xo : Option Addr} {xc : Nat} {yo : Option Addr} {yc : Nat} {r0 r1 : Option Addr} {pa : Nat} (h : S1 w0 W B hb gb p K N I so sn sc ao an ac uo tn tc bo bn bc lo ln lc s a t b l go0 go1 ho0 ho1 m0 m1 xo xc yo yc r0 r1) (ab : W.heap[pa]? = some (.cells #[.slice xo sn xc, .slice yo an yc] 55 (0, 0))) (st : Sl uo tn tc) (sb : Sl bo bn bc) :
    Calls Try.prog 69 #[.pointer (some ⟨gb, 0, none⟩), .agg #[.slice uo tn tc, .slice bo bn bc]] W fun e w' => ∃ zo zc vo vc q0 q1, e = .returned (.agg #[.slice zo tn zc, .slice vo bn vc]) ∧ (∀ pb w'', Below w'.heap.size w' w'' → w''.heap[pb]? = some (.cells #[.slice zo tn zc, .slice vo bn vc] 55 (0, 0)) → Pl w0 W w'' B hb gb p pa pb K N I so sn sc ao an ac uo tn tc bo bn bc lo ln lc s a t b l go0 go1 ho0 ho1 xo xc yo yc zo zc vo vc r0 r1 q0 q1 ∧ Below B w0 w'') ∧ Ar w' B p K N I so sn sc ao an ac uo tn tc bo bn bc lo ln lc s a t b l := by
  refine (lay_any gb B ho0 ho1 m0 m1 uo bo tn tc bn bc t b W h.g h.ar.rt st h.ar.rb sb h.ar.lt h.ar.lb h.ar.szB).mono fun e w' ⟨zo, zc, vo, vc, q0, q1, e1, L, k⟩ => ⟨zo, zc, vo, vc, q0, q1, e1, ?_⟩
  obtain ⟨A1, ab1, H1, D1⟩ := pl_second h.ar ab h.h h.g h.d h.hgo L k
  have hl := (Array.getElem?_eq_some_iff.1 ab1).1
  have hB := h.ar.szB
  have kb : Below B W w' := k.below hB (fun j hj s => by
    rcases s with rfl | e | e
    · have := h.g.base; omega
    · have := (h.g.r0.at _ (own_at h.g.r0 e)).1; omega
    · have := (h.g.r1.at _ (own_at h.g.r1 e)).1; omega)
  refine ⟨fun pb w'' k2 hb2 => ⟨⟨A1.kept (S := fun _ => False) (Kp.ofBelow k2) (fun _ e => e.elim), (k2.block pa hl).trans ab1, hb2, H1.below k2, L.below k2, D1⟩, ?_⟩, A1⟩
  have hx := below_tr h.bel kb
  have hs := A1.szB
  exact ⟨k2.os.trans hx.os, k2.tape.trans hx.tape, k2.output.trans hx.output, Nat.le_trans hx.size k2.size, fun j hj => (k2.block j (by omega)).trans (hx.block j hj)⟩

/-- The first hand was looked at. -/
structure S3 (wb W : World) (B hb gb p : Nat) (K N I : Int) (so : Option Addr) (sn sc : Nat) (ao : Option Addr) (an ac : Nat) (uo : Option Addr) (tn tc : Nat) (bo : Option Addr) (bn bc : Nat) (lo : Option Addr) (ln lc : Nat) (s a t b l : List Int) (ho0 ho1 : Option Addr) (zo : Option Addr) (zc : Nat) (vo : Option Addr) (vc : Nat) (r0 r1 q0 q1 : Option Addr) : Prop where
  ar : Ar W B p K N I so sn sc ao an ac uo tn tc bo bn bc lo ln lc s a t b l
  g : Lx wb W B gb ho0 ho1 tn bn t b zo zc vo vc q0 q1
  h : ∃ m0 m1, Hx W B hb r0 m0 r1 m1
  d : Dis hb gb r0 r1 q0 q1
theorem S3.below {wb W : World} {B hb gb p : Nat} {K N I : Int} {so : Option Addr} {sn sc : Nat} {ao : Option Addr} {an ac : Nat} {uo : Option Addr} {tn tc : Nat} {bo : Option Addr} {bn bc : Nat} {lo : Option Addr} {ln lc : Nat} {s a t b l : List Int} {ho0 ho1 : Option Addr} {zo : Option Addr} {zc : Nat} {vo : Option Addr} {vc : Nat} {r0 r1 q0 q1 : Option Addr} {W' : World} (h : S3 wb W B hb gb p K N I so sn sc ao an ac uo tn tc bo bn bc lo ln lc s a t b l ho0 ho1 zo zc vo vc r0 r1 q0 q1) (k : Below W.heap.size W W') : S3 wb W' B hb gb p K N I so sn sc ao an ac uo tn tc bo bn bc lo ln lc s a t b l ho0 ho1 zo zc vo vc r0 r1 q0 q1 := by
  obtain ⟨m0, m1, hx⟩ := h.h
  exact ⟨h.ar.kept (S := fun _ => False) (Kp.ofBelow k) (fun _ e => e.elim), h.g.below k, ⟨m0, m1, hx.kept (S := fun _ => False) (Kp.ofBelow k) (fun _ e => e.elim)⟩, h.d⟩

theorem call_kept1 {wa wb W : World} {B hb gb p pa pb : Nat} {K N I : Int} {so : Option Addr} {sn sc : Nat} {ao : Option Addr} {an ac : Nat} {uo : Option Addr} {tn tc : Nat} {bo : Option Addr} {bn bc : Nat} {lo : Option Addr} {ln lc : Nat} {s a t b l : List Int} {go0 go1 ho0 ho1 : Option Addr} {xo : Option Addr} {xc : Nat} {yo : Option Addr} {yc : Nat} {zo : Option Addr} {zc : Nat} {vo : Option Addr} {vc : Nat} {r0 r1 q0 q1 : Option Addr} (P : Pl wa wb W B hb gb p pa pb K N I so sn sc ao an ac uo tn tc bo bn bc lo ln lc s a t b l go0 go1 ho0 ho1 xo xc yo yc zo zc vo vc r0 r1 q0 q1) :
    Calls Try.prog 79 #[.pointer (some ⟨hb, 0, none⟩), .agg #[.slice so sn sc, .slice ao an ac]] W fun e w' => e = .returned (.bool true) ∧ S3 wb w' B hb gb p K N I so sn sc ao an ac uo tn tc bo bn bc lo ln lc s a t b l ho0 ho1 zo zc vo vc r0 r1 q0 q1 ∧ Below B W w' := by
  refine (keptx_any hb B go0 go1 so ao sn sc an ac s a xo xc yo yc r0 r1 wa W P.h P.ar.rs P.ar.ra P.ar.ls P.ar.la).mono fun e w' ⟨e1, hx, k, _, _⟩ => ⟨e1, ?_, k.below P.ar.szB (fun j hj s => ?_)⟩
  · obtain ⟨A1, G1⟩ := pl_third P k
    exact ⟨A1, G1, hx, P.dis⟩
  · obtain ⟨R0, R1, _, _, _⟩ := P.h.rows
    rcases P.h.is with ⟨g0, g1, rfl, rfl, _⟩ | ⟨rfl, rfl, _⟩
    · rcases s with e | e
      · cases e; exact absurd (R0 _ rfl).1 (Nat.not_le.2 hj)
      · cases e; exact absurd (R1 _ rfl).1 (Nat.not_le.2 hj)
    · rcases s with e | e <;> cases e

theorem call_kept2 {wb W : World} {B hb gb p : Nat} {K N I : Int} {so : Option Addr} {sn sc : Nat} {ao : Option Addr} {an ac : Nat} {uo : Option Addr} {tn tc : Nat} {bo : Option Addr} {bn bc : Nat} {lo : Option Addr} {ln lc : Nat} {s a t b l : List Int} {ho0 ho1 : Option Addr} {zo : Option Addr} {zc : Nat} {vo : Option Addr} {vc : Nat} {r0 r1 q0 q1 : Option Addr} (P : S3 wb W B hb gb p K N I so sn sc ao an ac uo tn tc bo bn bc lo ln lc s a t b l ho0 ho1 zo zc vo vc r0 r1 q0 q1) :
    Calls Try.prog 79 #[.pointer (some ⟨gb, 0, none⟩), .agg #[.slice uo tn tc, .slice bo bn bc]] W fun e w' => e = .returned (.bool true) ∧ (∃ m0 m1, Hx w' B hb r0 m0 r1 m1) ∧ (∃ m0 m1, Hx w' B gb q0 m0 q1 m1) ∧ Dis hb gb r0 r1 q0 q1 ∧ Below B W w' := by
  obtain ⟨m0, m1, hx⟩ := P.h
  obtain ⟨Q0, Q1, _, _, _⟩ := P.g.rows
  have kind : ∀ j, (some j = ownB q0 ∨ some j = ownB q1) → B ≤ j ∧ j ≠ hb ∧ r0 ≠ some ⟨j, 0, none⟩ ∧ r1 ≠ some ⟨j, 0, none⟩ := by
    intro j s
    rcases P.g.is with ⟨g0, g1, rfl, rfl, _⟩ | ⟨rfl, rfl, _⟩
    · rcases s with e | e
      · cases e
        obtain ⟨b1, _, ⟨c, hc⟩, _⟩ := Q0 _ rfl
        refine ⟨b1, fun e => ?_, fun e => P.d.d0 _ e rfl, fun e => ?_⟩
        · subst e; exact absurd (kinds hc hx.box) (by decide)
        · obtain ⟨_, _, c', hc'⟩ := hx.r1.at _ e
          exact absurd (kinds hc hc') (by decide)
      · cases e
        obtain ⟨b1, _, ⟨c, hc⟩, _⟩ := Q1 _ rfl
        refine ⟨b1, fun e => ?_, fun e => ?_, fun e => P.d.d1 _ e rfl⟩
        · subst e; exact absurd (kinds hc hx.box) (by decide)
        · obtain ⟨_, _, c', hc'⟩ := hx.r0.at _ e
          exact absurd (kinds hc hc') (by decide)
    · rcases s with e | e <;> cases e
  refine (keptx_any gb B ho0 ho1 uo bo tn tc bn bc t b zo zc vo vc q0 q1 wb W P.g P.ar.rt P.ar.rb P.ar.lt P.ar.lb).mono fun e w' ⟨e1, gx, k, _, _⟩ => ⟨e1, ⟨m0, m1, hx.kept k (fun j s => (kind j s).2)⟩, gx, P.d, k.below P.ar.szB (fun j hj s => ?_)⟩
  have := (kind j s).1; omega
end Go.Proofs.Ytkplfnajhinkiaa
