
/- What Read tells of a text, and of what Flat writes; no memory. -/

import Derived.Test.YtppcfpiihkaopaaGreatDoorVN

import Derived.Test.YtppcfpiihkaopaaGreatDoorVK

namespace Go.Proofs.YtppcfpiihkaopaaGreatDoor

open Go.RowKit Go.Shelf

attribute [local go_sem] Oper.semAt_some

set_option linter.unusedVariables false

/-- What stands for a place: what is between, blanks, the number. -/
def pceT (S A : List Int) (m an k : Nat) : List UInt8 := (if k = 0 then [] else btw (digs S k)) ++ List.replicate ((nth (widK S A m an) (colN S k)).toNat - (wrt (nth A k)).length) 32 ++ wrt (nth A k)
def txK (S A : List Int) (m an : Nat) : Nat → List UInt8
  | 0 => []
  | k + 1 => txK S A m an k ++ pceT S A m an k

/-! ### what a builder's writes leave as it was -/

theorem others_below {W V : World} {b : Nat} (h : Below W.heap.size W V) : Lib.OthersKept 5 (some b) W V := fun k o hk _ _ => (h.block k (Array.getElem?_eq_some_iff.1 hk).1).trans hk
/-- All is as it was, but for the builder and rows of bytes. -/
structure Kp (b : Nat) (W V : World) : Prop where
  oth : Lib.OthersKept 5 (some b) W V
  bel : Below b W V
theorem Kp.of {b : Nat} {W V : World} (h : Below W.heap.size W V) (hb : b ≤ W.heap.size) : Kp b W V := ⟨others_below h, h.mono hb⟩
theorem Kp.trans {b : Nat} {W V U : World} (h : Kp b W V) (k : Kp b V U) : Kp b W U := ⟨h.oth.trans k.oth, h.bel.trans k.bel⟩
theorem Bd.row {W : World} {b : Nat} {l : List UInt8} (h : Bd W b l) : ∃ cs, W.heap[b]? = some (.cells cs 73 (0, 0)) := h.elim (fun x => by obtain ⟨_, v, hb, _⟩ := x; exact ⟨_, hb⟩) (fun x => by obtain ⟨_, v, hb, _⟩ := x; exact ⟨_, hb⟩)
theorem Kp.heap {b k : Nat} {W V : World} (h : Kp b W V) {l : List UInt8} (hd : Bd W b l) {o : Obj} (ho : W.heap[k]? = some o) (h1 : ∀ c fz, o ≠ .cells c 5 fz) (h2 : ∀ c, o ≠ .cells c 73 (0, 0)) : V.heap[k]? = some o := by
  refine h.oth k o ho (fun e => ?_) h1
  cases e
  obtain ⟨cs, hc⟩ := hd.row
  rw [hc] at ho
  exact h2 cs (by cases ho; rfl)
theorem Kp.box {b k : Nat} {W V : World} (h : Kp b W V) {l : List UInt8} (hd : Bd W b l) {cs : Array Value} {t : TypeId} {fz : Nat × Nat} (ho : W.heap[k]? = some (.cells cs t fz)) (h1 : t ≠ 5) (h2 : t ≠ 73) : V.heap[k]? = some (.cells cs t fz) :=
  h.heap hd ho (fun c fz e => by cases e; exact h1 rfl) (fun c e => by cases e; exact h2 rfl)
theorem Kp.ft {b : Nat} {W V : World} (h : Kp b W V) {l : List UInt8} (hd : Bd W b l) {e : TypeId} {B : Nat} {oo : Option Addr} {n cap : Nat} {zs : List Int} (hf : Ft e W B oo n cap zs) (h1 : e ≠ 5) (h2 : e ≠ 73) : Ft e V B oo n cap zs := by
  have own : V.ownsRow B e 1 (.slice oo n cap) n (zs.map (Value.int .i64)) := by
    refine ⟨hf.own.1, ?_⟩
    rcases hf.own.2 with h0 | ⟨g, c, cur, e1, hb, hg, r⟩
    · exact .inl h0
    · exact .inr ⟨g, c, cur, e1, hb, h.box hd hg h1 h2, r⟩
  obtain ⟨ao, c, ee, hh⟩ := Ft.mk' hf.rd.len hf.rd.room hf.rd.num own
  cases ee
  exact hh
theorem Kp.lp {b l : Nat} {W V : World} (h : Kp b W V) {s : List UInt8} (hd : Bd W b s) {L : Lp} {st : LoopState} {pe : Option Code} (hl : L.is st pe l W) : L.is st pe l V :=
  ⟨h.heap hd hl.1 (fun c fz e => by cases e) (fun c e => by cases e), h.heap hd hl.2.1 (fun c fz e => by cases e) (fun c e => by cases e), hl.2.2⟩

/-- Between two rounds of inColumns. -/
structure CoI (w : World) (so : Option Addr) (sn sc : Nat) (ao : Option Addr) (an ac m b : Nat) (o1 : Addr) (B1 B2 : Nat) (qo : Option Addr) (qc : Nat) (S A : List Int) (k : Nat) (W : World) : Prop where
  i0 : W.heap[w.heap.size]? = some (.cells #[.slice so sn sc, .slice ao an ac] 36 (0, 0))
  bb : ∃ bw, b = bw + 1 ∧ w.heap.size < bw ∧ Boxed W bw 25 (.slice (some o1) m m)
  row : Ft 3 W w.heap.size (some o1) m m (widK S A m an)
  bd : Bd W b (txK S A m an k)
  s1 : Boxed W B1 3 (.int .i64 (sizeF S))
  s2 : Boxed W B2 25 (.slice qo sn qc)
  sr : Ft 3 W w.heap.size qo sn qc S
  bel : Below w.heap.size w W
theorem CoI.sq {w : World} {so : Option Addr} {sn sc : Nat} {ao : Option Addr} {an ac m b : Nat} {o1 : Addr} {B1 B2 : Nat} {qo : Option Addr} {qc : Nat} {S A : List Int} {k : Nat} {W : World} (h : CoI w so sn sc ao an ac m b o1 B1 B2 qo qc S A k W) : Sq W B1 B2 qo sn qc S := ⟨h.s1, h.s2, h.sr.rd⟩
theorem CoI.below {w : World} {so : Option Addr} {sn sc : Nat} {ao : Option Addr} {an ac m b : Nat} {o1 : Addr} {B1 B2 : Nat} {qo : Option Addr} {qc : Nat} {S A : List Int} {k : Nat} {W W' : World} (h : CoI w so sn sc ao an ac m b o1 B1 B2 qo qc S A k W) (hb : Below W.heap.size W W') : CoI w so sn sc ao an ac m b o1 B1 B2 qo qc S A k W' := by
  have bl : ∀ {B : Nat} {o : Obj}, W.heap[B]? = some o → W'.heap[B]? = some o := fun h => (hb.block _ (Array.getElem?_eq_some_iff.1 h).1).trans h
  obtain ⟨bw, e1, e2, e3⟩ := h.bb
  exact ⟨bl h.i0, ⟨bw, e1, e2, bl e3⟩, h.row.below hb (Nat.le_refl _), h.bd.below hb, bl h.s1, bl h.s2, h.sr.below hb (Nat.le_refl _), h.bel.trans (hb.mono h.bel.size)⟩
theorem CoI.keptL {w : World} {so : Option Addr} {sn sc : Nat} {ao : Option Addr} {an ac m b : Nat} {o1 : Addr} {B1 B2 : Nat} {qo : Option Addr} {qc : Nat} {S A : List Int} {k l : Nat} {r : Loop} {W W' : World} (h : CoI w so sn sc ao an ac m b o1 B1 B2 qo qc S A k W) (hg : W.grownBy W' (some l)) (hl : W.heap[l]? = some (.loop r)) (hw : w.heap.size ≤ l) : CoI w so sn sc ao an ac m b o1 B1 B2 qo qc S A k W' := by
  obtain ⟨bw, e1, e2, e3⟩ := h.bb
  have ftl : ∀ {e : TypeId} {B : Nat} {oo : Option Addr} {n cap : Nat} {zs : List Int}, Ft e W B oo n cap zs → Ft e W' B oo n cap zs := fun {e B oo n cap zs} hf => hf.keep1 hg (fun b' off eb e2 => by
    cases e2
    rcases hf.own.2 with ⟨e3, _⟩ | ⟨g, c', cur', e3, _, hg', _⟩
    · cases e3; cases eb
    · cases e3; cases eb
      rw [hl] at hg'
      cases hg')
  refine ⟨heap_keptL h.i0 (fun r e => by cases e) hg hl, ⟨bw, e1, e2, boxed_kept' e3 hg hl⟩, ftl h.row, ?_, boxed_kept' h.s1 hg hl, boxed_kept' h.s2 hg hl, ftl h.sr, below_grown h.bel hg hw⟩
  have key : ∀ p, Lib.BuilderAtF 73 5 b b p (Lib.byteCells (txK S A m an k)) W → Lib.BuilderAtF 73 5 b b p (Lib.byteCells (txK S A m an k)) W' := fun p hx => by
    obtain ⟨hB, v, hb, hown, hne⟩ := hx
    refine ⟨hB, v, heap_keptL hb (fun r e => by cases e) hg hl, hown.kept hg ?_, hne⟩
    cases hv : v.ownBlock with
    | none => exact .inl rfl
    | some gg =>
      refine .inr (fun e2 => ?_)
      cases e2
      obtain ⟨c, fz, hc⟩ := Lib.ownsRowF_kind hown l hv
      rw [hl] at hc
      cases hc
  exact h.bd.elim (fun x => .inl (key _ x)) (fun x => .inr (key _ x))
/-- A round's end. -/
theorem CoI.next {w : World} {so : Option Addr} {sn sc : Nat} {ao : Option Addr} {an ac m b : Nat} {o1 : Addr} {B1 B2 : Nat} {qo : Option Addr} {qc : Nat} {S A : List Int} {k l : Nat} {L : Lp} {W V : World} (h : CoI w so sn sc ao an ac m b o1 B1 B2 qo qc S A k W) (hr : L.is .busy none l W) (hk : Kp b W V) (hd : Bd V b (txK S A m an (k + 1))) (hw : w.heap.size ≤ l) : L.is .busy none l V ∧ ∀ W', V.grownBy W' (some l) → CoI w so sn sc ao an ac m b o1 B1 B2 qo qc S A (k + 1) W' := by
  have r2 := hk.lp h.bd hr
  obtain ⟨bw, e1, e2, e3⟩ := h.bb
  have all : CoI w so sn sc ao an ac m b o1 B1 B2 qo qc S A (k + 1) V := ⟨hk.box h.bd h.i0 (by decide) (by decide), ⟨bw, e1, e2, hk.box h.bd e3 (by decide) (by decide)⟩, hk.ft h.bd h.row (by decide) (by decide), hd, hk.box h.bd h.s1 (by decide) (by decide), hk.box h.bd h.s2 (by decide) (by decide), hk.ft h.bd h.sr (by decide) (by decide), h.bel.trans (hk.bel.mono (by omega))⟩
  exact ⟨r2, fun W' hg => all.keptL hg r2.1 hw⟩
end Go.Proofs.YtppcfpiihkaopaaGreatDoor

namespace Go.Proofs.YtppcfpiihkaopaaGreatDoor

open Go.RowKit

set_option linter.unusedVariables false

theorem sp_len : ∀ (zs : List Int), In64 zs → (sp zs).length ≤ 22 * zs.length := by
  intro zs
  induction zs with
  | nil => intro _; simp [sp]
  | cons n r ih =>
    intro h
    have h1 := wr_len n (h n (by simp)).1 (h n (by simp)).2
    have h2 := ih fun x hx => h x (by simp [hx])
    rw [sp_cons]; simp only [List.length_cons, List.length_append]; omega
theorem fl_len {S A : List Int} (hS : In64 S) (hA : In64 A) : (fl S A).length ≤ 22 * S.length + 22 * A.length + 2 := by
  unfold fl
  have h1 := inL_len S hS
  have h2 := inL_len A hA
  have h3 := sp_len A hA
  split
  · omega
  · simp only [List.length_append, List.length_cons]; omega
theorem pr_one (z : Int) : pr [z] = z := by simp [pr]
/-- What Flat writes is read back. -/
theorem rd_fl {S A : List Int} (hS : In64 S) (hA : In64 A) (hm : mayA S A = 0) : rdAll (fl S A) = (S, A, 0, 0) := by
  obtain ⟨m1, m2⟩ := mayA_zero hm
  have s8 := (mayF_zero m1).2.1
  have hp := pr_le m1
  have hl := fl_len hS hA
  unfold rdAll
  rw [if_neg (by omega), scn_fl hS hA (fun hb e => by
    rcases hb with h | ⟨h, h'⟩
    · rw [List.length_eq_zero_iff.1 h, e] at m2
      exact absurd m2 (by decide)
    · rw [e] at h'; simp at h')]
  by_cases hb : bareB S A
  · rw [if_pos hb]
    simp only [rdV]
    rw [if_pos trivial]
    rcases hb with h | ⟨h, h'⟩
    · have e := List.length_eq_zero_iff.1 h
      have ha : A.length = 1 := by rw [e] at m2; have : pr ([] : List Int) = 1 := rfl; omega
      rw [if_pos ha, e]
    · rw [if_neg (by omega), if_pos (by omega)]
      match S, h with
      | [z], _ => rw [pr_one] at m2; rw [m2]
  · rw [if_neg hb]
    simp only [rdV]
    rw [if_neg (by omega), if_neg (fun h => hb (.inl h)), if_neg (by simp [m1]), if_neg (by simp [m2]), if_neg hb]
end Go.Proofs.YtppcfpiihkaopaaGreatDoor
