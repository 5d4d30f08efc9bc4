
/- Package term: terms whose memory is new; Clone of a list of terms. -/

import Derived.Test.YtiahilelcppfgaaGreatTS

namespace Go.Proofs.YtiahilelcppfgaaGreat

open Go.RowKit

set_option linter.unusedVariables false

/-- From block B on nothing has changed. -/
structure Up (B : Nat) (W V : World) : Prop where
  size : W.heap.size ≤ V.heap.size
  block : ∀ k, B ≤ k → k < W.heap.size → V.heap[k]? = W.heap[k]?
theorem Up.of_below {B C : Nat} {W V : World} (h : Below C W V) (hC : W.heap.size ≤ C) : Up B W V := ⟨h.size, fun k _ hk => h.block k (Nat.lt_of_lt_of_le hk hC)⟩
theorem Up.mono {B C : Nat} {W V : World} (h : Up B W V) (hC : B ≤ C) : Up C W V := ⟨h.size, fun k hk => h.block k (Nat.le_trans hC hk)⟩
theorem Up.trans {B : Nat} {W V U : World} (h : Up B W V) (k : Up B V U) : Up B W U := ⟨Nat.le_trans h.size k.size, fun j h1 h2 => (k.block j h1 (Nat.lt_of_lt_of_le h2 h.size)).trans (h.block j h1 h2)⟩
theorem Up.cell {B : Nat} {W V : World} (u : Up B W V) {b o : Nat} (hb : B ≤ b) (hl : b < W.heap.size) : V.cell? ⟨b, o, none⟩ = W.cell? ⟨b, o, none⟩ := by
  simp only [World.cell?]
  rw [u.block b hb hl]
theorem Rd.up {B : Nat} {W V : World} {ao : Option Addr} {n : Nat} {zs : List Int} (h : Rd W ao n zs) (u : Up B W V) (hb : ∀ a, ao = some a → B ≤ a.block) : Rd V ao n zs := by
  refine ⟨h.len, h.room, h.num, fun h0 => ?_⟩
  obtain ⟨b, off, e, hl, hc⟩ := h.cells h0
  refine ⟨b, off, e, Nat.lt_of_lt_of_le hl u.size, fun k hk => ?_⟩
  rw [u.cell (by have := hb _ e; exact this) hl]
  exact hc k hk
/-- A term that is read, its lists all in blocks from B on. -/
def Tw (B : Nat) (W : World) : (d : Nat) → Tr d → List Value → Prop
  | 0, _, _ => False
  | d + 1, x, v => Nv (Tw B W d) W x.nd x.ks v ∧ ∀ a n c, Value.slice (some a) n c ∈ v → B ≤ a.block
theorem Kq.mp {α : Type} {P Q : α → List Value → Prop} {W : World} {ko : Option Addr} {ks : List α} (h : Kq P W ko ks) (hP : ∀ y v, P y v → Q y v) : Kq Q W ko ks := by
  refine ⟨h.room, fun h0 => ?_⟩
  obtain ⟨b, off, e, hl, hc⟩ := h.cells h0
  refine ⟨b, off, e, hl, fun i y hy => ?_⟩
  obtain ⟨c0, c1, c2, c3, c4, c5, hp, q⟩ := hc i y hy
  exact ⟨c0, c1, c2, c3, c4, c5, hP _ _ hp, q⟩
theorem Nv.mp {α : Type} {P Q : α → List Value → Prop} {W : World} {x : Nd} {ks : List α} {v : List Value} (h : Nv P W x ks v) (hP : ∀ y v, P y v → Q y v) : Nv Q W x ks v := by
  obtain ⟨⟨so, sn, sc, ao, an, ac, ko, kc, e, h1, h2, h3, h4, h5, h6⟩, hk, hn, ht⟩ := h
  exact ⟨⟨so, sn, sc, ao, an, ac, ko, kc, e, h1, h2, h3, h4, h5.mp hP, h6⟩, hk, hn, ht⟩
theorem Tw.tv {B : Nat} {W : World} : ∀ {d : Nat} {x : Tr d} {v : List Value}, Tw B W d x v → Tv W d x v
  | 0, _, _, h => h
  | d + 1, x, v, h => Nv.mp h.1 fun y v h => Tw.tv h
theorem Tw.mono {B C : Nat} {W : World} (hC : C ≤ B) : ∀ {d : Nat} {x : Tr d} {v : List Value}, Tw B W d x v → Tw C W d x v
  | 0, _, _, h => h
  | d + 1, x, v, h => ⟨Nv.mp h.1 fun y v h => Tw.mono hC h, fun a n c ha => Nat.le_trans hC (h.2 a n c ha)⟩
theorem Tw.up {B : Nat} {W V : World} (u : Up B W V) : ∀ {d : Nat} {x : Tr d} {v : List Value}, Tw B W d x v → Tw B V d x v
  | 0, _, _, h => h
  | d + 1, x, v, h => by
    obtain ⟨⟨⟨so, sn, sc, ao, an, ac, ko, kc, e, h1, h2, h3, h4, h5, h6⟩, hk, hn, ht⟩, hb⟩ := h
    refine ⟨⟨⟨so, sn, sc, ao, an, ac, ko, kc, e, h1.up u fun a ea => hb a sn sc (by rw [e, ea]; simp), h2, h3.up u fun a ea => hb a an ac (by rw [e, ea]; simp), h4, ⟨h5.room, fun h0 => ?_⟩, h6⟩, hk, hn, ht⟩, hb⟩
    obtain ⟨b, off, eo, hl, hc⟩ := h5.cells h0
    have hB : B ≤ b := hb ⟨b, off, none⟩ x.ks.length kc (by rw [e, eo]; simp)
    refine ⟨b, off, eo, Nat.lt_of_lt_of_le hl u.size, fun i y hy => ?_⟩
    obtain ⟨c0, c1, c2, c3, c4, c5, hp, q0, q1, q2, q3, q4, q5⟩ := hc i y hy
    exact ⟨c0, c1, c2, c3, c4, c5, Tw.up u hp, (u.cell hB hl).trans q0, (u.cell hB hl).trans q1, (u.cell hB hl).trans q2, (u.cell hB hl).trans q3, (u.cell hB hl).trans q4, (u.cell hB hl).trans q5⟩
theorem nilT (w : World) (a : Option Addr) (l c : Nat) : (binOp .eql 29 (.slice a l c) (.slice none 0 0)).run Tryz.prog w = .ok (.bool a.isNone) w := by
  have h : (Op.equal 29 (.slice a l c) (.slice none 0 0)).run Tryz.prog w = .ok a.isNone w := by
    show (Op.equalIn (9999 + 1) 29 (.slice a l c) (.slice none 0 0)).run Tryz.prog w = .ok a.isNone w
    rw [Op.equalIn]
    cases a <;> simp [Sem.run_bind, run_underlying Tryz.underlying29, Result.andThen]
  simp [binOp, h]
/-- Clone of a list of terms. -/
theorem cloneT_any {d : Nat} (ks : List (Tr d)) (ko : Option Addr) (kc : Nat) (W0 w : World) (h : Kq (Tv W0 d) w ko ks) (hs : Sl ko ks.length kc) :
    Calls Tryz.prog 65 #[.slice ko ks.length kc] w fun e w' => ∃ o' c' news, e = .returned (.slice o' ks.length c') ∧ Below w.heap.size w w' ∧ w'.ownsRow w.heap.size 31 6 (.slice o' ks.length c') ks.length news ∧ ∀ i y, ks[i]? = some y → ∃ c0 c1 c2 c3 c4 c5, Tv W0 d y [c0, c1, c2, c3, c4, c5] ∧ news[i * 6]? = some c0 ∧ news[i * 6 + 1]? = some c1 ∧ news[i * 6 + 2]? = some c2 ∧ news[i * 6 + 3]? = some c3 ∧ news[i * 6 + 4]? = some c4 ∧ news[i * 6 + 5]? = some c5 := by
  have hq := fun W a n c => nilT W a n c
  have hroom := h.room
  cases hko : ko with
  | none =>
    subst hko
    obtain ⟨h0, rfl⟩ := hs.nil rfl
    have : ks = [] := List.eq_nil_of_length_eq_zero h0
    subst this
    rw [show ([] : List (Tr d)).length = 0 from rfl]
    go_enter Tryz.func65, Tryz.ntmps65
    go_wp2
    go_ret
    exact ⟨none, 0, [], rfl, Below.refl _ _, World.ownsRow_nil _ _ _ _, fun i y e => by simp at e⟩
  | some a =>
    obtain ⟨news, hl, hn, h1, hy⟩ := h.news hko
    subst hko
    have hb := box_below w (.cells #[] 31)
    have hO : (w.alloc (.cells #[] 31)).ownsRow w.heap.size 31 6 (.slice (some ⟨w.heap.size, 0, none⟩) 0 0) 0 [] := by
      refine ⟨rfl, .inr ⟨w.heap.size, 0, #[], rfl, Nat.le_refl _, allocNew _ _, Nat.le_refl _, by decide, rfl, rfl⟩⟩
    obtain ⟨i0, hi, hz0, hz1, hz2⟩ := info_parts infoT
    obtain ⟨v', w', hrun, hown, hgrow, hnil⟩ := run_append_own (P := Tryz.prog) (w.alloc (.cells #[] 31)) w.heap.size 29 29 31 i0 _ 6 104 Tryz.underlying29 hi hz0 hz1 hz2 rfl (by decide) _ 0 _ hO a ks.length kc news hl
      (fun j u hu => by
        have := hn j u hu
        exact (hb.cell (p := a.add j) (World.block_lt_of_cell? w _ this)).trans this) h1 (by unfold maxLen; omega) (by omega) hb.size
    rw [Nat.zero_add, List.nil_append] at hown
    have hv : ∃ o' c', v' = .slice o' ks.length c' := by
      rcases hown.2 with ⟨rfl, h0⟩ | ⟨g, cap, cur, rfl, _⟩
      · exact ⟨none, 0, by rw [h0]⟩
      · exact ⟨_, _, rfl⟩
    obtain ⟨o', c', rfl⟩ := hv
    have bw : Below w.heap.size w w' := hb.grown hgrow hb.size (fun q e => by simp [Value.ownBlock] at e; omega)
    generalize ks.length = n at *
    clear h hn h1 hl hnil
    go_enter Tryz.func65, Tryz.ntmps65
    go_wp2_with (at_builtin; refine wpList_append_run rfl _ _ _ rfl _ (by exact hrun) ?_)
    go_ret
    exact ⟨o', c', news, rfl, bw, hown, hy⟩
end Go.Proofs.YtiahilelcppfgaaGreat
