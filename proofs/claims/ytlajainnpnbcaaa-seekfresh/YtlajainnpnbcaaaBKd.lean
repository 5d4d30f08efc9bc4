
/- A list more in a book; the last ones grown. -/

import Derived.Test.YtlajainnpnbcaaaBKb

namespace Go.Proofs.Ytlajainnpnbcaaa

open Go.RowKit

set_option linter.unusedVariables false

def mS (k : Nat) : Int := 1099511627776 + (k : Int)
def mA (k : Nat) : Int := -2199023255552 - (k : Int)
/-- A book: m lists of each kind, each full of its mark; its own memory is within S. -/
structure Bk (W : World) (S : Nat → Prop) (bb : Nat) (so ao : Option Addr) (m p sc ac : Nat) (sz : Int) (vs us : List Value) : Prop where
  box : W.heap[bb]? = some (.cells #[.slice so m sc, .slice ao p ac, .int .i64 sz] 28 (0, 0))
  vl : vs.length = m
  ul : us.length = p
  shp : W.ownsRow 0 33 1 (.slice so m sc) m vs
  atm : W.ownsRow 0 34 1 (.slice ao p ac) p us
  rs : Rwi W 3 vs mS
  ra : Rwi W 2 us mA
  fb : S bb
  fs : ∀ g, (Value.slice so m sc).ownBlock = some g → S g
  fa : ∀ g, (Value.slice ao p ac).ownBlock = some g → S g
  fv : ∀ (i : Nat) (v : Value) (g : Nat), vs[i]? = some v → v.ownBlock = some g → S g
  fu : ∀ (i : Nat) (v : Value) (g : Nat), us[i]? = some v → v.ownBlock = some g → S g
  hm : (m : Int) * 800 ≤ sz ∧ (p : Int) * 800 ≤ sz
  hk : m ≤ 41944 ∧ p ≤ 41944
  hz : sz ≤ 1125899906842624
section

variable {W W' : World} {S S' R : Nat → Prop} {bb : Nat} {so ao : Option Addr} {m p sc ac : Nat} {sz : Int} {vs us : List Value}

theorem Bk.chg (h : Bk W S bb so ao m p sc ac sz vs us) (k : Chg R W W') (hR : ∀ g, S g → ¬ R g) : Bk W' S bb so ao m p sc ac sz vs us :=
  ⟨k.at h.box (hR _ h.fb), h.vl, h.ul, k.own h.shp fun g hg => hR g (h.fs g hg), k.own h.atm fun g hg => hR g (h.fa g hg), h.rs.chg k fun i v g hi hv => hR g (h.fv i v g hi hv), h.ra.chg k fun i v g hi hv => hR g (h.fu i v g hi hv), h.fb, h.fs, h.fa, h.fv, h.fu, h.hm, h.hk, h.hz⟩
theorem Bk.below (h : Bk W S bb so ao m p sc ac sz vs us) (k : Below W.heap.size W W') : Bk W' S bb so ao m p sc ac sz vs us :=
  h.chg (R := fun _ => False) (Chg.of_below k (Nat.le_refl _) _) fun _ _ e => e
theorem Bk.mono (h : Bk W S bb so ao m p sc ac sz vs us) (hS : ∀ g, S g → S' g) : Bk W S' bb so ao m p sc ac sz vs us :=
  ⟨h.box, h.vl, h.ul, h.shp, h.atm, h.rs, h.ra, hS _ h.fb, fun g hg => hS g (h.fs g hg), fun g hg => hS g (h.fa g hg), fun i v g hi hv => hS g (h.fv i v g hi hv), fun i v g hi hv => hS g (h.fu i v g hi hv), h.hm, h.hk, h.hz⟩
/-- The foot lies in what is there. -/
theorem Bk.trim (h : Bk W S bb so ao m p sc ac sz vs us) : Bk W (fun g => S g ∧ g < W.heap.size) bb so ao m p sc ac sz vs us :=
  ⟨h.box, h.vl, h.ul, h.shp, h.atm, h.rs, h.ra, ⟨h.fb, (Array.getElem?_eq_some_iff.1 h.box).1⟩, fun g hg => ⟨h.fs g hg, (h.shp.lt g hg).2⟩, fun g hg => ⟨h.fa g hg, (h.atm.lt g hg).2⟩, fun i v g hi hv => ⟨h.fv i v g hi hv, h.rs.lt i v g hi hv⟩, fun i v g hi hv => ⟨h.fu i v g hi hv, h.ra.lt i v g hi hv⟩, h.hm, h.hk, h.hz⟩
end

/-- A list that is being filled with a mark: the first k are it. -/
def Fil (W : World) (e : TypeId) (v : Value) (n k : Nat) (c : Int) : Prop :=
  ∃ l : List Int, W.ownsRow 0 e 1 v n (l.map (Value.int .i64)) ∧ l.length = n ∧ ∀ j x, j < k → l[j]? = some x → x = c
theorem Fil.start {W : World} {e : TypeId} {v : Value} {n : Nat} {l : List Int} (h : W.ownsRow 0 e 1 v n (l.map (Value.int .i64))) (hl : l.length = n) (c : Int) : Fil W e v n 0 c := ⟨l, h, hl, fun j x hj => by omega⟩
theorem Fil.lo {W : World} {e : TypeId} {ao : Option Addr} {n k cap : Nat} {c : Int} (h : Fil W e (.slice ao n cap) n k c) {j : Nat} (hj : j < n) : ∃ g, ao = some ⟨g, 0, none⟩ ∧ (∃ x, W.cell? ⟨g, j, none⟩ = some (.int .i64 x)) ∧ W.frozen? ⟨g, j, none⟩ = false := by
  obtain ⟨l, h1, h2, _⟩ := h
  rcases h1.2 with ⟨_, h0⟩ | ⟨g, cap', cur, e1, _⟩
  · omega
  · injection e1 with e1 e2 e3
    subst e1
    refine ⟨g, rfl, ⟨l[j]'(by omega), ?_⟩, h1.frozenAt j⟩
    rw [h1.cellAt j (by omega), List.getElem?_map, List.getElem?_eq_getElem (by omega)]
    rfl
theorem Fil.put {W : World} {e : TypeId} {n k cap g : Nat} {c : Int} (h : Fil W e (.slice (some ⟨g, 0, none⟩) n cap) n k c) (hk : k < n) : Fil (W.setCell ⟨g, k, none⟩ (.int .i64 c)) e (.slice (some ⟨g, 0, none⟩) n cap) n (k + 1) c ∧ Chg (fun j => j = g) W (W.setCell ⟨g, k, none⟩ (.int .i64 c)) := by
  obtain ⟨l, h1, h2, h3⟩ := h
  obtain ⟨h4, h5⟩ := h1.stored k (.int .i64 c)
  rw [show (l.map (Value.int .i64)).set k (.int .i64 c) = (l.set k c).map (Value.int .i64) by rw [List.map_set]] at h4
  refine ⟨⟨l.set k c, h4, by simpa using h2, fun j x hj hx => ?_⟩, (Chg.of_grown h5).mono fun j _ e => (Option.some.inj e).symm⟩
  rw [List.getElem?_set] at hx
  split at hx
  · split at hx
    · simpa using hx.symm
    · cases hx
  · exact h3 j x (by omega) hx
theorem Fil.done {W : World} {e : TypeId} {v : Value} {n : Nat} {c : Int} (h : Fil W e v n n c) : ∃ l : List Int, W.ownsRow 0 e 1 v l.length (l.map (Value.int .i64)) ∧ l.length = n ∧ ∀ z ∈ l, z = c := by
  obtain ⟨l, h1, h2, h3⟩ := h
  refine ⟨l, by rw [h2]; exact h1, h2, fun z hz => ?_⟩
  obtain ⟨j, hj⟩ := List.mem_iff_getElem?.1 hz
  exact h3 j z (by have := (List.getElem?_eq_some_iff.1 hj).1; omega) hj
theorem Fil.chg {W W' : World} {S : Nat → Prop} {e : TypeId} {v : Value} {n k : Nat} {c : Int} (h : Fil W e v n k c) (hc : Chg S W W') (hS : ∀ g, v.ownBlock = some g → ¬ S g) : Fil W' e v n k c := by
  obtain ⟨l, h1, h2⟩ := h
  exact ⟨l, hc.own h1 hS, h2⟩
end Go.Proofs.Ytlajainnpnbcaaa

namespace Go.Proofs.Ytlajainnpnbcaaa

open Go.RowKit

set_option linter.unusedVariables false

section

variable {W W' : World} {S S' : Nat → Prop} {bb : Nat} {so ao : Option Addr} {m p sc ac : Nat} {sz : Int} {vs us : List Value}

theorem Bk.pushS {A W9 : World} {x v' : Value} {l : List Int} (h : Bk W S bb so ao m p sc ac sz vs us) (hx : W.ownsRow 0 3 1 x l.length (l.map (Value.int .i64))) (hl : ∀ z ∈ l, z = mS m) (hne : ∀ g, x.ownBlock = some g → ¬ S g) (bA : Below W.heap.size W A)
    (r9 : W9.ownsRow 0 33 1 v' (m + 1) (vs ++ [x])) (g9 : A.grownBy W9 (Value.slice so m sc).ownBlock) (a9 : v'.ownBlock = (Value.slice so m sc).ownBlock ∨ v'.ownBlock = some A.heap.size) (hz : ((m + 1 : Nat) : Int) * 800 ≤ sz) (hk : m + 1 ≤ 41944)
    (hS : ∀ g, S g → S' g) (hN : ∀ g, W.heap.size ≤ g → S' g) (hX : ∀ g, x.ownBlock = some g → S' g) :
    ∃ so' sc', v' = .slice so' (m + 1) sc' ∧ Bk (W9.setCell ⟨bb, 0, none⟩ v') S' bb so' ao (m + 1) p sc' ac sz (vs ++ [x]) us ∧ Chg S' W (W9.setCell ⟨bb, 0, none⟩ v') := by
  obtain ⟨so', sc', rfl⟩ := own_len r9
  refine ⟨so', sc', rfl, ?_⟩
  have hA := h.below bA
  have xA := (Chg.of_below bA (Nat.le_refl _) (fun _ => False)).own hx fun _ _ e => e
  have k9 := Chg.of_grown g9
  have bB : W9.heap[bb]? = some (.cells #[.slice so m sc, .slice ao p ac, .int .i64 sz] 28 (0, 0)) := k9.at hA.box fun e => by
    obtain ⟨cs, hc⟩ := ownB hA.shp e
    exact absurd (kindB hA.box hc) (by decide)
  have kS := Chg.of_grown (set1 W9 bb 0 (.slice so' (m + 1) sc'))
  have kT : Chg (fun g => (Value.slice so m sc).ownBlock = some g ∨ g = bb) A (W9.setCell ⟨bb, 0, none⟩ (.slice so' (m + 1) sc')) := (k9.mono fun _ _ e => .inl e).trans (kS.mono fun _ _ e => .inr (Option.some.inj e).symm)
  have typ : ∀ {e : TypeId} {n : Nat} {v : Value} {xs : List Value}, A.ownsRow 0 e 1 v n xs → e ≠ 33 → e ≠ 28 → ∀ g, v.ownBlock = some g → ¬ ((Value.slice so m sc).ownBlock = some g ∨ g = bb) := by
    intro e n v xs ho h1 h2 g hv hh
    obtain ⟨cs, hc⟩ := ownB ho hv
    rcases hh with hh | rfl
    · obtain ⟨cs', hc'⟩ := ownB hA.shp hh
      exact h1 (kindB hc hc')
    · exact h2 (kindB hc hA.box)
  have rs' : Rwi (W9.setCell ⟨bb, 0, none⟩ (.slice so' (m + 1) sc')) 3 vs mS := hA.rs.chg kT fun i v g hi hv => by
    obtain ⟨l, ho, _⟩ := hA.rs.own i v hi
    exact typ ho (by decide) (by decide) g hv
  have ra' : Rwi (W9.setCell ⟨bb, 0, none⟩ (.slice so' (m + 1) sc')) 2 us mA := hA.ra.chg kT fun i v g hi hv => by
    obtain ⟨l, ho, _⟩ := hA.ra.own i v hi
    exact typ ho (by decide) (by decide) g hv
  have x' := kT.own xA (typ xA (by decide) (by decide))
  have r10 : (W9.setCell ⟨bb, 0, none⟩ (.slice so' (m + 1) sc')).ownsRow 0 33 1 (.slice so' (m + 1) sc') (m + 1) (vs ++ [x]) := kS.own r9 fun g hv e => by
    obtain ⟨cs, hc⟩ := ownB r9 hv
    rw [← Option.some.inj e] at hc
    exact absurd (kindB bB hc) (by decide)
  have o10 := kT.own hA.atm (typ hA.atm (by decide) (by decide))
  have b10 := heap_setCell_same W9 bb 0 #[.slice so m sc, .slice ao p ac, .int .i64 sz] 28 (.slice so' (m + 1) sc') bB
  have vS : ∀ g, (Value.slice so' (m + 1) sc').ownBlock = some g → S' g := fun g hg => by
    rcases a9 with e | e
    · rw [e] at hg; exact hS g (h.fs g hg)
    · rw [e] at hg; injection hg with hg; exact hN g (by rw [← hg]; exact bA.size)
  have xne : ∀ (i : Nat) (v : Value) (g : Nat), vs[i]? = some v → v.ownBlock = some g → x.ownBlock ≠ some g := fun i v g hi hv e => hne g e (h.fv i v g hi hv)
  have ps : Rwi (W9.setCell ⟨bb, 0, none⟩ (.slice so' (m + 1) sc')) 3 (vs ++ [x]) mS := rs'.push x' (by rw [h.vl]; exact hl) xne
  have fx : ∀ (i : Nat) (v : Value) (g : Nat), (vs ++ [x])[i]? = some v → v.ownBlock = some g → S' g := fun i v g hi hv => by
    rcases last_of hi with ⟨hi, _⟩ | ⟨_, rfl⟩
    · exact hS g (h.fv i v g hi hv)
    · exact hX g hv
  refine ⟨⟨b10, by simp [h.vl], h.ul, r10, o10, ps, ra', hS _ h.fb, vS, fun g hg => hS g (h.fa g hg), fx, fun i v g hi hv => hS g (h.fu i v g hi hv), ⟨hz, h.hm.2⟩, ⟨hk, h.hk.2⟩, h.hz⟩, ?_⟩
  refine (Chg.of_below bA (Nat.le_refl _) _).trans ((kT.mono fun g _ hg => ?_))
  rcases hg with hg | rfl
  · exact hS g (h.fs g hg)
  · exact hS g h.fb
theorem Bk.pushA {A W9 : World} {x v' : Value} {l : List Int} (h : Bk W S bb so ao m p sc ac sz vs us) (hx : W.ownsRow 0 2 1 x l.length (l.map (Value.int .i64))) (hl : ∀ z ∈ l, z = mA p) (hne : ∀ g, x.ownBlock = some g → ¬ S g) (bA : Below W.heap.size W A)
    (r9 : W9.ownsRow 0 34 1 v' (p + 1) (us ++ [x])) (g9 : A.grownBy W9 (Value.slice ao p ac).ownBlock) (a9 : v'.ownBlock = (Value.slice ao p ac).ownBlock ∨ v'.ownBlock = some A.heap.size) (hz : ((p + 1 : Nat) : Int) * 800 ≤ sz) (hk : p + 1 ≤ 41944)
    (hS : ∀ g, S g → S' g) (hN : ∀ g, W.heap.size ≤ g → S' g) (hX : ∀ g, x.ownBlock = some g → S' g) :
    ∃ so' sc', v' = .slice so' (p + 1) sc' ∧ Bk (W9.setCell ⟨bb, 1, none⟩ v') S' bb so so' m (p + 1) sc sc' sz vs (us ++ [x]) ∧ Chg S' W (W9.setCell ⟨bb, 1, none⟩ v') := by
  obtain ⟨so', sc', rfl⟩ := own_len r9
  refine ⟨so', sc', rfl, ?_⟩
  have hA := h.below bA
  have xA := (Chg.of_below bA (Nat.le_refl _) (fun _ => False)).own hx fun _ _ e => e
  have k9 := Chg.of_grown g9
  have bB : W9.heap[bb]? = some (.cells #[.slice so m sc, .slice ao p ac, .int .i64 sz] 28 (0, 0)) := k9.at hA.box fun e => by
    obtain ⟨cs, hc⟩ := ownB hA.atm e
    exact absurd (kindB hA.box hc) (by decide)
  have kS := Chg.of_grown (set1 W9 bb 1 (.slice so' (p + 1) sc'))
  have kT : Chg (fun g => (Value.slice ao p ac).ownBlock = some g ∨ g = bb) A (W9.setCell ⟨bb, 1, none⟩ (.slice so' (p + 1) sc')) := (k9.mono fun _ _ e => .inl e).trans (kS.mono fun _ _ e => .inr (Option.some.inj e).symm)
  have typ : ∀ {e : TypeId} {n : Nat} {v : Value} {xs : List Value}, A.ownsRow 0 e 1 v n xs → e ≠ 34 → e ≠ 28 → ∀ g, v.ownBlock = some g → ¬ ((Value.slice ao p ac).ownBlock = some g ∨ g = bb) := by
    intro e n v xs ho h1 h2 g hv hh
    obtain ⟨cs, hc⟩ := ownB ho hv
    rcases hh with hh | rfl
    · obtain ⟨cs', hc'⟩ := ownB hA.atm hh
      exact h1 (kindB hc hc')
    · exact h2 (kindB hc hA.box)
  have rs' : Rwi (W9.setCell ⟨bb, 1, none⟩ (.slice so' (p + 1) sc')) 3 vs mS := hA.rs.chg kT fun i v g hi hv => by
    obtain ⟨l, ho, _⟩ := hA.rs.own i v hi
    exact typ ho (by decide) (by decide) g hv
  have ra' : Rwi (W9.setCell ⟨bb, 1, none⟩ (.slice so' (p + 1) sc')) 2 us mA := hA.ra.chg kT fun i v g hi hv => by
    obtain ⟨l, ho, _⟩ := hA.ra.own i v hi
    exact typ ho (by decide) (by decide) g hv
  have x' := kT.own xA (typ xA (by decide) (by decide))
  have r10 : (W9.setCell ⟨bb, 1, none⟩ (.slice so' (p + 1) sc')).ownsRow 0 34 1 (.slice so' (p + 1) sc') (p + 1) (us ++ [x]) := kS.own r9 fun g hv e => by
    obtain ⟨cs, hc⟩ := ownB r9 hv
    rw [← Option.some.inj e] at hc
    exact absurd (kindB bB hc) (by decide)
  have o10 := kT.own hA.shp (typ hA.shp (by decide) (by decide))
  have b10 := heap_setCell_same W9 bb 1 #[.slice so m sc, .slice ao p ac, .int .i64 sz] 28 (.slice so' (p + 1) sc') bB
  have vS : ∀ g, (Value.slice so' (p + 1) sc').ownBlock = some g → S' g := fun g hg => by
    rcases a9 with e | e
    · rw [e] at hg; exact hS g (h.fa g hg)
    · rw [e] at hg; injection hg with hg; exact hN g (by rw [← hg]; exact bA.size)
  have xne : ∀ (i : Nat) (v : Value) (g : Nat), us[i]? = some v → v.ownBlock = some g → x.ownBlock ≠ some g := fun i v g hi hv e => hne g e (h.fu i v g hi hv)
  have ps : Rwi (W9.setCell ⟨bb, 1, none⟩ (.slice so' (p + 1) sc')) 2 (us ++ [x]) mA := ra'.push x' (by rw [h.ul]; exact hl) xne
  have fx : ∀ (i : Nat) (v : Value) (g : Nat), (us ++ [x])[i]? = some v → v.ownBlock = some g → S' g := fun i v g hi hv => by
    rcases last_of hi with ⟨hi, _⟩ | ⟨_, rfl⟩
    · exact hS g (h.fu i v g hi hv)
    · exact hX g hv
  refine ⟨⟨b10, h.vl, by simp [h.ul], o10, r10, rs', ps, hS _ h.fb, fun g hg => hS g (h.fs g hg), vS, fun i v g hi hv => hS g (h.fv i v g hi hv), fx, ⟨h.hm.1, hz⟩, ⟨h.hk.1, hk⟩, h.hz⟩, ?_⟩
  refine (Chg.of_below bA (Nat.le_refl _) _).trans ((kT.mono fun g _ hg => ?_))
  rcases hg with hg | rfl
  · exact hS g (h.fa g hg)
  · exact hS g h.fb
/-- The last lists are grown in their places, and written down anew. -/
theorem Bk.grown {x y x' y' : Value} {gs ga : Nat} {l l' : List Int} (h : Bk W S bb (some ⟨gs, 0, none⟩) (some ⟨ga, 0, none⟩) (m + 1) (m + 1) sc ac sz (vs ++ [x]) (us ++ [y])) (k : Chg (fun g => x.ownBlock = some g ∨ y.ownBlock = some g) W W')
    (hx : W'.ownsRow 0 3 1 x' l.length (l.map (Value.int .i64))) (hl : ∀ z ∈ l, z = mS m) (ex : x'.ownBlock = x.ownBlock) (hy : W'.ownsRow 0 2 1 y' l'.length (l'.map (Value.int .i64))) (hl' : ∀ z ∈ l', z = mA m) (ey : y'.ownBlock = y.ownBlock) :
    Bk ((W'.setCell ⟨gs, m, none⟩ x').setCell ⟨ga, m, none⟩ y') S bb (some ⟨gs, 0, none⟩) (some ⟨ga, 0, none⟩) (m + 1) (m + 1) sc ac sz (vs ++ [x']) (us ++ [y']) ∧ Chg S W ((W'.setCell ⟨gs, m, none⟩ x').setCell ⟨ga, m, none⟩ y') := by
  have vl : vs.length = m := by have := h.vl; simpa using this
  have ul : us.length = m := by have := h.ul; simpa using this
  have hxv : (vs ++ [x])[m]? = some x := by rw [← vl]; simp
  have hyv : (us ++ [y])[m]? = some y := by rw [← ul]; simp
  obtain ⟨lx, ox, _⟩ := h.rs.own m x hxv
  obtain ⟨ly, oy, _⟩ := h.ra.own m y hyv
  have typ : ∀ {e : TypeId} {g : Nat} {cs : Array Value}, W.heap[g]? = some (.cells cs e (0, 0)) → e ≠ 3 → e ≠ 2 → ¬ (x.ownBlock = some g ∨ y.ownBlock = some g) := by
    intro e g cs hg h1 h2 hh
    rcases hh with hh | hh
    · obtain ⟨cs', hc⟩ := ownB ox hh; exact h1 (kindB hg hc)
    · obtain ⟨cs', hc⟩ := ownB oy hh; exact h2 (kindB hg hc)
  have sp := k.own h.shp fun g hg => by obtain ⟨cs, hc⟩ := ownB h.shp hg; exact typ hc (by decide) (by decide)
  have at' := k.own h.atm fun g hg => by obtain ⟨cs, hc⟩ := ownB h.atm hg; exact typ hc (by decide) (by decide)
  have bx := k.at h.box (typ h.box (by decide) (by decide))
  have rs' : Rwi W' 3 (vs ++ [x']) mS := h.rs.last k (fun i v g hi hv hh => by
      rcases hh with hh | hh
      · exact h.rs.ne_last i v g hi hv hh
      · obtain ⟨l0, h0, _⟩ := h.rs.own i v (by rw [List.getElem?_append_left (List.getElem?_eq_some_iff.1 hi).1]; exact hi)
        obtain ⟨cs, hc⟩ := ownB h0 hv
        obtain ⟨cs', hc'⟩ := ownB oy hh
        exact absurd (kindB hc hc') (by decide)) hx (by rw [vl]; exact hl) ex
  have ra' : Rwi W' 2 (us ++ [y']) mA := h.ra.last k (fun i v g hi hv hh => by
      rcases hh with hh | hh
      · obtain ⟨l0, h0, _⟩ := h.ra.own i v (by rw [List.getElem?_append_left (List.getElem?_eq_some_iff.1 hi).1]; exact hi)
        obtain ⟨cs, hc⟩ := ownB h0 hv
        obtain ⟨cs', hc'⟩ := ownB ox hh
        exact absurd (kindB hc hc') (by decide)
      · exact h.ra.ne_last i v g hi hv hh) hy (by rw [ul]; exact hl') ey
  obtain ⟨s1, g1⟩ := sp.stored m x'
  rw [show (vs ++ [x]).set m x' = vs ++ [x'] by rw [← vl]; simp] at s1
  have k1 := Chg.of_grown g1
  have hgs := ownB sp rfl
  have hga := ownB at' rfl
  obtain ⟨cS, hcS⟩ := hgs
  obtain ⟨cA, hcA⟩ := hga
  have ne1 : ∀ {e : TypeId} {g : Nat} {cs : Array Value}, W'.heap[g]? = some (.cells cs e (0, 0)) → e ≠ 33 → ¬ (some gs = some g) := by
    intro e g cs hg h1 hh
    injection hh with hh; subst hh
    exact h1 (kindB hg hcS)
  have a1 := k1.own at' fun g hg => by obtain ⟨cs, hc⟩ := ownB at' hg; exact ne1 hc (by decide)
  have b1 := k1.at bx (ne1 bx (by decide))
  have r1 := rs'.chg k1 fun i v g hi hv => by obtain ⟨l0, h0, _⟩ := rs'.own i v hi; obtain ⟨cs, hc⟩ := ownB h0 hv; exact ne1 hc (by decide)
  have r2 := ra'.chg k1 fun i v g hi hv => by obtain ⟨l0, h0, _⟩ := ra'.own i v hi; obtain ⟨cs, hc⟩ := ownB h0 hv; exact ne1 hc (by decide)
  obtain ⟨s2, g2⟩ := a1.stored m y'
  rw [show (us ++ [y]).set m y' = us ++ [y'] by rw [← ul]; simp] at s2
  have k2 := Chg.of_grown g2
  have hcA1 := k1.at hcA (ne1 hcA (by decide))
  have ne2 : ∀ {e : TypeId} {g : Nat} {cs : Array Value}, (W'.setCell ⟨gs, m, none⟩ x').heap[g]? = some (.cells cs e (0, 0)) → e ≠ 34 → ¬ (some ga = some g) := by
    intro e g cs hg h1 hh
    injection hh with hh; subst hh
    exact h1 (kindB hg hcA1)
  have a2 := k2.own s1 fun g hg => by obtain ⟨cs, hc⟩ := ownB s1 hg; exact ne2 hc (by decide)
  have b2 := k2.at b1 (ne2 b1 (by decide))
  have r3 := r1.chg k2 fun i v g hi hv => by obtain ⟨l0, h0, _⟩ := r1.own i v hi; obtain ⟨cs, hc⟩ := ownB h0 hv; exact ne2 hc (by decide)
  have r4 := r2.chg k2 fun i v g hi hv => by obtain ⟨l0, h0, _⟩ := r2.own i v hi; obtain ⟨cs, hc⟩ := ownB h0 hv; exact ne2 hc (by decide)
  have fv' : ∀ (i : Nat) (v : Value) (g : Nat), (vs ++ [x'])[i]? = some v → v.ownBlock = some g → S g := fun i v g hi hv => by
    rcases last_of hi with ⟨hi, hlt⟩ | ⟨_, rfl⟩
    · exact h.fv i v g (by rw [List.getElem?_append_left hlt]; exact hi) hv
    · exact h.fv m x g hxv (by rw [← ex]; exact hv)
  have fu' : ∀ (i : Nat) (v : Value) (g : Nat), (us ++ [y'])[i]? = some v → v.ownBlock = some g → S g := fun i v g hi hv => by
    rcases last_of hi with ⟨hi, hlt⟩ | ⟨_, rfl⟩
    · exact h.fu i v g (by rw [List.getElem?_append_left hlt]; exact hi) hv
    · exact h.fu m y g hyv (by rw [← ey]; exact hv)
  refine ⟨⟨b2, by simp [vl], by simp [ul], a2, s2, r3, r4, h.fb, h.fs, h.fa, fv', fu', h.hm, h.hk, h.hz⟩, ?_⟩
  refine (k.mono fun g _ hg => ?_).trans ((k1.mono fun g _ hg => ?_).trans (k2.mono fun g _ hg => ?_))
  · rcases hg with hg | hg
    · exact h.fv m x g hxv hg
    · exact h.fu m y g hyv hg
  · exact h.fs g hg
  · exact h.fa g hg
/-- What is there for the last two stores. -/
theorem Bk.stores {x y : Value} {gs ga : Nat} (h : Bk W S bb (some ⟨gs, 0, none⟩) (some ⟨ga, 0, none⟩) (m + 1) (m + 1) sc ac sz (vs ++ [x]) (us ++ [y])) (k : Chg (fun g => x.ownBlock = some g ∨ y.ownBlock = some g) W W') :
    W'.heap[bb]? = some (.cells #[.slice (some ⟨gs, 0, none⟩) (m + 1) sc, .slice (some ⟨ga, 0, none⟩) (m + 1) ac, .int .i64 sz] 28 (0, 0)) ∧ (∃ v, W'.cell? ⟨gs, m, none⟩ = some v) ∧ W'.frozen? ⟨gs, m, none⟩ = false ∧ (∃ v, W'.cell? ⟨ga, m, none⟩ = some v) ∧ W'.frozen? ⟨ga, m, none⟩ = false ∧ gs ≠ bb ∧ ga ≠ bb ∧ gs ≠ ga := by
  have vl : vs.length = m := by have := h.vl; simpa using this
  have ul : us.length = m := by have := h.ul; simpa using this
  have hxv : (vs ++ [x])[m]? = some x := by rw [← vl]; simp
  have hyv : (us ++ [y])[m]? = some y := by rw [← ul]; simp
  obtain ⟨lx, ox, _⟩ := h.rs.own m x hxv
  obtain ⟨ly, oy, _⟩ := h.ra.own m y hyv
  have typ : ∀ {e : TypeId} {g : Nat} {cs : Array Value}, W.heap[g]? = some (.cells cs e (0, 0)) → e ≠ 3 → e ≠ 2 → ¬ (x.ownBlock = some g ∨ y.ownBlock = some g) := by
    intro e g cs hg h1 h2 hh
    rcases hh with hh | hh
    · obtain ⟨cs', hc⟩ := ownB ox hh; exact h1 (kindB hg hc)
    · obtain ⟨cs', hc⟩ := ownB oy hh; exact h2 (kindB hg hc)
  have sp := k.own h.shp fun g hg => by obtain ⟨cs, hc⟩ := ownB h.shp hg; exact typ hc (by decide) (by decide)
  have at' := k.own h.atm fun g hg => by obtain ⟨cs, hc⟩ := ownB h.atm hg; exact typ hc (by decide) (by decide)
  obtain ⟨c1, h1⟩ := ownB h.shp (g := gs) rfl
  obtain ⟨c2, h2⟩ := ownB h.atm (g := ga) rfl
  refine ⟨k.at h.box (typ h.box (by decide) (by decide)), ⟨x, (sp.cellAt m (by omega)).trans hxv⟩, sp.frozenAt m, ⟨y, (at'.cellAt m (by omega)).trans hyv⟩, at'.frozenAt m, fun e => ?_, fun e => ?_, fun e => ?_⟩
  · subst e; exact absurd (kindB h1 h.box) (by decide)
  · subst e; exact absurd (kindB h2 h.box) (by decide)
  · subst e; exact absurd (kindB h1 h2) (by decide)
end

end Go.Proofs.Ytlajainnpnbcaaa
