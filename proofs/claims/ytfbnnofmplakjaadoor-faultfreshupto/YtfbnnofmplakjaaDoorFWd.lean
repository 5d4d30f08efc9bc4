
/- The lists that are grown. -/

import Derived.Test.YtfbnnofmplakjaaDoorFWb

import Derived.Deep.RegionLaw

import Derived.Deep.DeepAppendRoom

namespace Go.Proofs.YtfbnnofmplakjaaDoor

open Go.RowKit Go.Extern.Stop Go.Stop Go.Extern

set_option linter.unusedVariables false

def P3 (i : Nat) (l : List (List UInt8)) : Prop := l.length ≤ 1051577 ∧ ∀ x ∈ l, x = mrk i
/-- The lists as they are now (xs), and the row of those that are being grown. -/
structure Gq (w : World) (q : Nat) (b : Bs) (e : Value) (ls : List Lk) (na : Option Addr) (nc : Nat) (lv : Value) (vs xs us : List Value) (gg n : Nat) (W : World) : Prop where
  fq : Fq w q b e ls na nc lv vs xs P3 W
  grow : W.ownsRow w.heap.size 27 1 (.slice (some ⟨gg, 0, none⟩) n n) n us
  lgne : lv.ownBlock ≠ some gg
theorem step_spare {ops : Array Oper} {o : Oper} {a : Act} {w : World} {K : Act → World → Prop} {Q : Exit → Act → World → Prop} {E : Prop}
    (hg : o.guard = none) (s x : Operand) (hop : o.op = Op.call { callee := Callee.builtin Builtin.append, args := #[s, x], argTypes := #[27, 27] })
    (B g n cap : Nat) (l : List (List UInt8)) (nm : List UInt8) (hs : a.eval s = .slice (some ⟨g, 0, none⟩) n cap) (hown : St w B (.slice (some ⟨g, 0, none⟩) n cap) l)
    (k : Nat) (hx : a.eval x = .slice (some ⟨k, 0, none⟩) 1 1) (hc : w.cell? ⟨k, 0, none⟩ = some (.string ⟨nm.toArray⟩)) (hroom : n + 1 ≤ cap)
    (hK : ∀ w', St w' B (.slice (some ⟨g, 0, none⟩) (n + 1) cap) (l ++ [nm]) → w.grownBy w' (some g) → K (a.put o.dst (.slice (some ⟨g, 0, none⟩) (n + 1) cap)) w') :
    if Region.wanted o (yielded ops a.tmps) = true then Oper.wp Tryd.prog o a w K Q else E := by
  have hw : Region.wanted o (yielded ops a.tmps) = true := by simp [Region.wanted, hg]
  rw [if_pos hw]
  obtain rfl : n = l.length := by obtain ⟨a, c, e⟩ := own_slice hown; injection e
  obtain ⟨i9, hi9, hz9, hs9, hb9⟩ := info9
  refine wp_append_own_spare w s x 27 hop B 9 i9 1 Tryd.underlying27 hi9 hs9 g l.length cap _ hs hown ⟨k, 0, none⟩ 1 1 [.string ⟨nm.toArray⟩] hx rfl ?_ ?_ hroom ?_
  · intro j u hj
    match j, hj with
    | 0, hj => simp at hj; subst hj; simpa [Addr.add] using hc
  · intro u hu; simp at hu; subst hu; rfl
  · intro w' h1 h2
    refine hK w' ?_ h2
    have : (l ++ [nm]).length = l.length + 1 := by simp
    unfold St
    rw [this, List.map_append]
    exact h1
section
variable {w W W' : World} {q : Nat} {b : Bs} {e : Value} {ls : List Lk} {na : Option Addr} {nc : Nat} {lv : Value} {vs xs us : List Value} {gg n : Nat}

theorem Gq.below (h : Gq w q b e ls na nc lv vs xs us gg n W) (k : Below W.heap.size W W') : Gq w q b e ls na nc lv vs xs us gg n W' :=
  ⟨h.fq.below k, own_below h.grow k, h.lgne⟩
theorem Gq.start (h : Fq w q b e ls na nc lv vs xs P3 W) (hn : n ≤ maxLen) : Gq w q b e ls na nc lv vs xs (List.replicate n (.slice none 0 0)) W.heap.size n (W.alloc (.cells (madeCells #[.slice none 0 0] n) 27)) := by
  refine ⟨h.below (box_below W _), ?_, fun hl => ?_⟩
  · have := World.ownsRow_lit (base := w.heap.size) (e := 27) (size := 1) W (madeCells #[.slice none 0 0] n) n h.bel.size hn (by simp [madeCells])
    rw [toList_madeCells_one] at this
    exact this
  · have := (h.row.lt _ hl).2; omega
theorem Gq.put (h : Gq w q b e ls na nc lv vs xs us gg n W) (i : Nat) (v : Value) : Gq w q b e ls na nc lv vs xs (us.set i v) gg n (W.setCell ⟨gg, i, none⟩ v) := by
  obtain ⟨h1, h2⟩ := h.grow.stored i v
  obtain ⟨cs, h3⟩ := own_at h.grow rfl
  exact ⟨h.fq.other h3 h.lgne (h.grow.lt gg rfl).1 h2, h1, h.lgne⟩
theorem Gq.cellAt (h : Gq w q b e ls na nc lv vs xs us gg n W) {i : Nat} {v : Value} (hi : us[i]? = some v) : W.cell? ⟨gg, i, none⟩ = some v := by
  rw [h.grow.cellAt i (by have := (List.getElem?_eq_some_iff.1 hi).1; have := h.grow.1; omega)]; exact hi
theorem Gq.frozen (h : Gq w q b e ls na nc lv vs xs us gg n W) (i : Nat) : W.frozen? ⟨gg, i, none⟩ = false := h.grow.frozenAt i
theorem Gq.app {g k c i : Nat} {l : List (List UInt8)} (h : Gq w q b e ls na nc lv vs xs us gg n W) (hi : xs[i]? = some (.slice (some ⟨g, 0, none⟩) k c)) (hl : l.length ≤ 1051576) (hx : ∀ x ∈ l, x = mrk i) (hg : W.grownBy W' (some g)) (hs : St W' w.heap.size (.slice (some ⟨g, 0, none⟩) (k + 1) c) (l ++ [mrk i])) :
    Gq w q b e ls na nc lv vs (xs.set i (.slice (some ⟨g, 0, none⟩) (k + 1) c)) us gg n W' := by
  obtain ⟨l0, hs0, _⟩ := h.fq.rows.own i _ hi
  refine ⟨h.fq.step hi rfl hg rfl hs ⟨by simp; omega, fun x hx' => ?_⟩ (fun j l _ hp => hp) (fun j u hj => ?_), kept_ne h.grow hg fun g' hv e => ?_, h.lgne⟩
  · rcases List.mem_append.1 hx' with h1 | h1
    · exact hx x h1
    · simpa using h1
  · rw [List.getElem?_set] at hj
    by_cases hij : i = j
    · subst hij
      rw [if_pos rfl] at hj
      split at hj
      · exact .inl ⟨rfl, (Option.some.inj hj).symm⟩
      · cases hj
    · rw [if_neg hij] at hj
      exact .inr ⟨fun e => hij e.symm, hj⟩
  · exact own_ne hs0 h.grow (by decide) rfl (hv.trans e.symm)
end

/-- Between two rounds of the outer loop. -/
def Hq (w : World) (q : Nat) (b : Bs) (e : Value) (ls : List Lk) (na : Option Addr) (nc : Nat) (lv : Value) (vs : List Value) (gg n I : Nat) (W : World) : Prop :=
  ∃ xs us, Gq w q b e ls na nc lv vs xs us gg n W ∧ xs.length = n ∧ us.length = n ∧ (∀ j, j < I → us[j]? = xs[j]?) ∧ (∀ j, I ≤ j → xs[j]? = vs[j]?)
/-- Between two rounds of the inner one. -/
def Iq (w : World) (q : Nat) (b : Bs) (e : Value) (ls : List Lk) (na : Option Addr) (nc : Nat) (lv : Value) (vs : List Value) (gg n I n0 : Nat) (a : Option Addr) (k c : Nat) (W : World) : Prop :=
  ∃ xs us, Gq w q b e ls na nc lv vs xs us gg n W ∧ xs.length = n ∧ us.length = n ∧ (∀ j, j < I + 1 → us[j]? = xs[j]?) ∧ (∀ j, I + 1 ≤ j → xs[j]? = vs[j]?) ∧ us[I]? = some (.slice a k c) ∧ k ≤ n0 + 3000
section
variable {w W W' : World} {q : Nat} {b : Bs} {e : Value} {ls : List Lk} {na : Option Addr} {nc : Nat} {lv : Value} {vs : List Value} {gg n I n0 k c : Nat} {a : Option Addr}

theorem Hq.start (h : Fq w q b e ls na nc lv vs vs P3 W) (hn : n ≤ maxLen) (hv : vs.length = n) : Hq w q b e ls na nc lv vs W.heap.size n 0 (W.alloc (.cells (madeCells #[.slice none 0 0] n) 27)) :=
  ⟨vs, _, Gq.start h hn, hv, by simp, fun j hj => by omega, fun j _ => rfl⟩
theorem Hq.fz (h : Hq w q b e ls na nc lv vs gg n I W) (hI : I < n) : (∃ v, W.cell? ⟨gg, I, none⟩ = some v) ∧ (∀ j, W.frozen? ⟨gg, j, none⟩ = false) ∧ Below w.heap.size w W := by
  obtain ⟨xs, us, hG, h1, h2, h3, h4⟩ := h
  exact ⟨⟨_, hG.cellAt (List.getElem?_eq_getElem (by omega))⟩, hG.frozen, hG.fq.bel⟩
theorem Hq.inner (h : Hq w q b e ls na nc lv vs gg n I W) (hI : I < n) (hv : vs[I]? = some (.slice a n0 c)) : Iq w q b e ls na nc lv vs gg n I n0 a n0 c (W.setCell ⟨gg, I, none⟩ (.slice a n0 c)) := by
  obtain ⟨xs, us, hG, h1, h2, h3, h4⟩ := h
  refine ⟨xs, _, hG.put I _, h1, by simpa using h2, fun j hj => ?_, fun j hj => h4 j (by omega), ?_, by omega⟩
  · rw [List.getElem?_set]
    by_cases hij : I = j
    · subst hij; rw [if_pos rfl, if_pos (by omega), h4 I (Nat.le_refl _), hv]
    · rw [if_neg hij]; exact h3 j (by omega)
  · rw [List.getElem?_set, if_pos rfl, if_pos (by omega)]
theorem Iq.below (h : Iq w q b e ls na nc lv vs gg n I n0 a k c W) (hb : Below W.heap.size W W') : Iq w q b e ls na nc lv vs gg n I n0 a k c W' := by
  obtain ⟨xs, us, hG, h1⟩ := h
  exact ⟨xs, us, hG.below hb, h1⟩
theorem Iq.done (h : Iq w q b e ls na nc lv vs gg n I n0 a k c W) : Hq w q b e ls na nc lv vs gg n (I + 1) W := by
  obtain ⟨xs, us, hG, h1, h2, h3, h4, _⟩ := h
  exact ⟨xs, us, hG, h1, h2, h3, h4⟩
theorem Iq.cell (h : Iq w q b e ls na nc lv vs gg n I n0 a k c W) : W.cell? ⟨gg, I, none⟩ = some (.slice a k c) := by
  obtain ⟨xs, us, hG, h1, h2, h3, h4, h5, h6⟩ := h
  exact hG.cellAt h5
theorem Iq.fz (h : Iq w q b e ls na nc lv vs gg n I n0 a k c W) : (∀ j, W.frozen? ⟨gg, j, none⟩ = false) ∧ Below w.heap.size w W := by
  obtain ⟨xs, us, hG, h1⟩ := h
  exact ⟨hG.frozen, hG.fq.bel⟩
theorem Iq.row (h : Iq w q b e ls na nc lv vs gg n I n0 a k c W) (hkc : k < c) : ∃ g l, a = some ⟨g, 0, none⟩ ∧ St W w.heap.size (.slice (some ⟨g, 0, none⟩) k c) l ∧ l.length = k ∧ ∀ x ∈ l, x = mrk I := by
  obtain ⟨xs, us, hG, h1, h2, h3, h4, h5, h6⟩ := h
  obtain ⟨l, hs, hp⟩ := hG.fq.rows.own I (.slice a k c) ((h3 I (by omega)).symm.trans h5)
  obtain rfl : k = l.length := by obtain ⟨a, c, e⟩ := own_slice hs; injection e
  rcases hs.2 with ⟨e, _⟩ | ⟨g, cap, cur, e, _⟩
  · injection e; omega
  · injection e with e1; subst e1
    exact ⟨g, l, rfl, hs, rfl, hp.2⟩
theorem Iq.next {g : Nat} {l : List (List UInt8)} (h : Iq w q b e ls na nc lv vs gg n I n0 (some ⟨g, 0, none⟩) k c W) (hn : n0 ≤ 1048577) (hk : k < n0 + 3000) (hl : l.length = k) (hx : ∀ x ∈ l, x = mrk I) (hg : W.grownBy W' (some g)) (hs : St W' w.heap.size (.slice (some ⟨g, 0, none⟩) (k + 1) c) (l ++ [mrk I])) :
    Iq w q b e ls na nc lv vs gg n I n0 (some ⟨g, 0, none⟩) (k + 1) c (W'.setCell ⟨gg, I, none⟩ (.slice (some ⟨g, 0, none⟩) (k + 1) c)) := by
  obtain ⟨xs, us, hG, h1, h2, h3, h4, h5, h6⟩ := h
  have hxI : xs[I]? = some (.slice (some ⟨g, 0, none⟩) k c) := (h3 I (by omega)).symm.trans h5
  have hIn : I < us.length := (List.getElem?_eq_some_iff.1 h5).1
  have A := (hG.app hxI (by omega) hx hg hs).put I (.slice (some ⟨g, 0, none⟩) (k + 1) c)
  refine ⟨_, _, A, by simpa using h1, by simpa using h2, fun j hj => ?_, fun j hj => ?_, ?_, by omega⟩
  · rw [List.getElem?_set, List.getElem?_set]
    by_cases hij : I = j
    · subst hij; rw [if_pos rfl, if_pos rfl, if_pos (by omega), if_pos (by omega)]
    · rw [if_neg hij, if_neg hij]; exact h3 j hj
  · rw [List.getElem?_set, if_neg (by omega)]; exact h4 j hj
  · rw [List.getElem?_set, if_pos rfl, if_pos (by omega)]
theorem Iq.apped {g : Nat} {l : List (List UInt8)} (h : Iq w q b e ls na nc lv vs gg n I n0 (some ⟨g, 0, none⟩) k c W) (hs : St W w.heap.size (.slice (some ⟨g, 0, none⟩) k c) l) (hg : W.grownBy W' (some g)) : (∃ v, W'.cell? ⟨gg, I, none⟩ = some v) ∧ ∀ j, W'.frozen? ⟨gg, j, none⟩ = false := by
  obtain ⟨xs, us, hG, h1, h2, h3, h4, h5, h6⟩ := h
  have hne : some gg ≠ some g := fun e => own_ne (v := .slice (some ⟨g, 0, none⟩) k c) hs hG.grow (by decide) rfl e
  have r := kept_ne hG.grow hg (fun g' hv e => hne (by rw [show (Value.slice (some ⟨gg, 0, none⟩) n n).ownBlock = some gg from rfl] at hv; rw [hv]; exact e.symm))
  have hI : I < n := by have := (List.getElem?_eq_some_iff.1 h5).1; omega
  exact ⟨⟨_, (r.cellAt I (by omega)).trans h5⟩, fun j => r.frozenAt j⟩
theorem Hq.lo {lo : Option Addr} {lc : Nat} (h : Hq w q b e ls na nc (.slice lo n lc) vs gg n I W) (hv : vs.length = n) (hI : I < n) : ∃ lg, lo = some ⟨lg, 0, none⟩ := by
  obtain ⟨xs, us, hG, _⟩ := h
  have r := hG.fq.row
  rcases r.2 with ⟨_, h0⟩ | ⟨g, cap, cur, e, _⟩
  · omega
  · injection e with e1; exact ⟨g, e1⟩
theorem Hq.lcell {lg lc : Nat} {v : Value} (h : Hq w q b e ls na nc (.slice (some ⟨lg, 0, none⟩) n lc) vs gg n I W) (hv : vs.length = n) {i : Nat} (hi : vs[i]? = some v) : W.cell? ⟨lg, i, none⟩ = some v := by
  obtain ⟨xs, us, hG, _⟩ := h
  have r := hG.fq.row
  rw [hv] at r
  rw [r.cellAt i (by have := (List.getElem?_eq_some_iff.1 hi).1; omega)]; exact hi
theorem Iq.lcell {lg lc : Nat} {v : Value} (h : Iq w q b e ls na nc (.slice (some ⟨lg, 0, none⟩) n lc) vs gg n I n0 a k c W) (hv : vs.length = n) {i : Nat} (hi : vs[i]? = some v) : W.cell? ⟨lg, i, none⟩ = some v := h.done.lcell hv hi
theorem Hq.all (h : Hq w q b e ls na nc lv vs gg n n W) : ∃ us, Gq w q b e ls na nc lv vs us us gg n W ∧ us.length = n := by
  obtain ⟨xs, us, hG, h1, h2, h3, h4⟩ := h
  have : us = xs := by
    apply List.ext_getElem?
    intro j
    by_cases hj : j < n
    · exact h3 j hj
    · rw [List.getElem?_eq_none (by omega), List.getElem?_eq_none (by omega)]
  subst this
  exact ⟨us, hG, h1⟩
def lim (n : Nat) : Nat := n + 3000
theorem Gq.val {xs us : List Value} (h : Gq w q b e ls na nc lv vs xs us gg n W) {i : Nat} {v : Value} (hi : xs[i]? = some v) : ∃ a m c, v = .slice a m c ∧ m ≤ 1051577 ∧ ∀ j, j < m → ∃ g, a = some ⟨g, 0, none⟩ ∧ W.cell? ⟨g, j, none⟩ = some (.string ⟨(mrk i).toArray⟩) := by
  obtain ⟨l, hs, hp⟩ := h.fq.rows.own i v hi
  obtain ⟨a, c, rfl⟩ := own_slice hs
  refine ⟨a, _, c, rfl, hp.1, fun j hj => ?_⟩
  obtain ⟨g, hg, hc⟩ := st_cells hs j hj
  refine ⟨g, hg, ?_⟩
  rw [hc j hj, List.getD_eq_getElem?_getD, List.getElem?_eq_getElem hj]
  rw [show (some l[j]).getD [] = l[j] from rfl, hp.2 l[j] (List.getElem_mem hj)]
end

end Go.Proofs.YtfbnnofmplakjaaDoor
