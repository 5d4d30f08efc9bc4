
/- A book of lists. -/

import Derived.Test.YthncgocjegalhaaBKb

namespace Go.Proofs.Ythncgocjegalhaa

open Go.RowKit

set_option linter.unusedVariables false

def mS (k : Nat) : Int := 1099511627776 + (k : Int)
def mA (k : Nat) : Int := -2199023255552 - (k : Int)
/-- A book: m lists of each kind, each full of its mark; its own memory is within S. -/
structure Bk (W : World) (S : Nat → Prop) (bb : Nat) (so ao : Option Addr) (m p sc ac : Nat) (sz : Int) (vs us : List Value) : Prop where
  box : W.heap[bb]? = some (.cells #[.slice so m sc, .slice ao p ac, .int .i64 sz] 28 (0, 0))
  vl : vs.length = m
  ul : us.length = p
  shp : W.ownsRow 0 33 1 (.slice so m sc) m vs
  atm : W.ownsRow 0 34 1 (.slice ao p ac) p us
  rs : Rwi W 3 vs mS
  ra : Rwi W 2 us mA
  fb : S bb
  fs : ∀ g, (Value.slice so m sc).ownBlock = some g → S g
  fa : ∀ g, (Value.slice ao p ac).ownBlock = some g → S g
  fv : ∀ (i : Nat) (v : Value) (g : Nat), vs[i]? = some v → v.ownBlock = some g → S g
  fu : ∀ (i : Nat) (v : Value) (g : Nat), us[i]? = some v → v.ownBlock = some g → S g
  hm : (m : Int) * 800 ≤ sz ∧ (p : Int) * 800 ≤ sz
  hk : m ≤ 41944 ∧ p ≤ 41944
  hz : sz ≤ 1125899906842624
section
variable {W W' : World} {S S' R : Nat → Prop} {bb : Nat} {so ao : Option Addr} {m p sc ac : Nat} {sz : Int} {vs us : List Value}

theorem Bk.chg (h : Bk W S bb so ao m p sc ac sz vs us) (k : Chg R W W') (hR : ∀ g, S g → ¬ R g) : Bk W' S bb so ao m p sc ac sz vs us :=
  ⟨k.at h.box (hR _ h.fb), h.vl, h.ul, k.own h.shp fun g hg => hR g (h.fs g hg), k.own h.atm fun g hg => hR g (h.fa g hg), h.rs.chg k fun i v g hi hv => hR g (h.fv i v g hi hv), h.ra.chg k fun i v g hi hv => hR g (h.fu i v g hi hv), h.fb, h.fs, h.fa, h.fv, h.fu, h.hm, h.hk, h.hz⟩
theorem Bk.below (h : Bk W S bb so ao m p sc ac sz vs us) (k : Below W.heap.size W W') : Bk W' S bb so ao m p sc ac sz vs us :=
  h.chg (R := fun _ => False) (Chg.of_below k (Nat.le_refl _) _) fun _ _ e => e
theorem Bk.mono (h : Bk W S bb so ao m p sc ac sz vs us) (hS : ∀ g, S g → S' g) : Bk W S' bb so ao m p sc ac sz vs us :=
  ⟨h.box, h.vl, h.ul, h.shp, h.atm, h.rs, h.ra, hS _ h.fb, fun g hg => hS g (h.fs g hg), fun g hg => hS g (h.fa g hg), fun i v g hi hv => hS g (h.fv i v g hi hv), fun i v g hi hv => hS g (h.fu i v g hi hv), h.hm, h.hk, h.hz⟩
/-- The foot lies in what is there. -/
theorem Bk.trim (h : Bk W S bb so ao m p sc ac sz vs us) : Bk W (fun g => S g ∧ g < W.heap.size) bb so ao m p sc ac sz vs us :=
  ⟨h.box, h.vl, h.ul, h.shp, h.atm, h.rs, h.ra, ⟨h.fb, (Array.getElem?_eq_some_iff.1 h.box).1⟩, fun g hg => ⟨h.fs g hg, (h.shp.lt g hg).2⟩, fun g hg => ⟨h.fa g hg, (h.atm.lt g hg).2⟩, fun i v g hi hv => ⟨h.fv i v g hi hv, h.rs.lt i v g hi hv⟩, fun i v g hi hv => ⟨h.fu i v g hi hv, h.ra.lt i v g hi hv⟩, h.hm, h.hk, h.hz⟩
end

/-- A list that is being filled with a mark: the first k are it. -/
def Fil (W : World) (e : TypeId) (v : Value) (n k : Nat) (c : Int) : Prop :=
  ∃ l : List Int, W.ownsRow 0 e 1 v n (l.map (Value.int .i64)) ∧ l.length = n ∧ ∀ j x, j < k → l[j]? = some x → x = c
theorem Fil.start {W : World} {e : TypeId} {v : Value} {n : Nat} {l : List Int} (h : W.ownsRow 0 e 1 v n (l.map (Value.int .i64))) (hl : l.length = n) (c : Int) : Fil W e v n 0 c := ⟨l, h, hl, fun j x hj => by omega⟩
theorem Fil.lo {W : World} {e : TypeId} {ao : Option Addr} {n k cap : Nat} {c : Int} (h : Fil W e (.slice ao n cap) n k c) {j : Nat} (hj : j < n) : ∃ g, ao = some ⟨g, 0, none⟩ ∧ (∃ x, W.cell? ⟨g, j, none⟩ = some (.int .i64 x)) ∧ W.frozen? ⟨g, j, none⟩ = false := by
  obtain ⟨l, h1, h2, _⟩ := h
  rcases h1.2 with ⟨_, h0⟩ | ⟨g, cap', cur, e1, _⟩
  · omega
  · injection e1 with e1 e2 e3
    subst e1
    refine ⟨g, rfl, ⟨l[j]'(by omega), ?_⟩, h1.frozenAt j⟩
    rw [h1.cellAt j (by omega), List.getElem?_map, List.getElem?_eq_getElem (by omega)]
    rfl
theorem Fil.put {W : World} {e : TypeId} {n k cap g : Nat} {c : Int} (h : Fil W e (.slice (some ⟨g, 0, none⟩) n cap) n k c) (hk : k < n) : Fil (W.setCell ⟨g, k, none⟩ (.int .i64 c)) e (.slice (some ⟨g, 0, none⟩) n cap) n (k + 1) c ∧ Chg (fun j => j = g) W (W.setCell ⟨g, k, none⟩ (.int .i64 c)) := by
  obtain ⟨l, h1, h2, h3⟩ := h
  obtain ⟨h4, h5⟩ := h1.stored k (.int .i64 c)
  rw [show (l.map (Value.int .i64)).set k (.int .i64 c) = (l.set k c).map (Value.int .i64) by rw [List.map_set]] at h4
  refine ⟨⟨l.set k c, h4, by simpa using h2, fun j x hj hx => ?_⟩, (Chg.of_grown h5).mono fun j _ e => (Option.some.inj e).symm⟩
  rw [List.getElem?_set] at hx
  split at hx
  · split at hx
    · simpa using hx.symm
    · cases hx
  · exact h3 j x (by omega) hx
theorem Fil.done {W : World} {e : TypeId} {v : Value} {n : Nat} {c : Int} (h : Fil W e v n n c) : ∃ l : List Int, W.ownsRow 0 e 1 v l.length (l.map (Value.int .i64)) ∧ l.length = n ∧ ∀ z ∈ l, z = c := by
  obtain ⟨l, h1, h2, h3⟩ := h
  refine ⟨l, by rw [h2]; exact h1, h2, fun z hz => ?_⟩
  obtain ⟨j, hj⟩ := List.mem_iff_getElem?.1 hz
  exact h3 j z (by have := (List.getElem?_eq_some_iff.1 hj).1; omega) hj
theorem Fil.chg {W W' : World} {S : Nat → Prop} {e : TypeId} {v : Value} {n k : Nat} {c : Int} (h : Fil W e v n k c) (hc : Chg S W W') (hS : ∀ g, v.ownBlock = some g → ¬ S g) : Fil W' e v n k c := by
  obtain ⟨l, h1, h2⟩ := h
  exact ⟨l, hc.own h1 hS, h2⟩
theorem Fil.nm {W : World} {e : TypeId} {v : Value} {n k : Nat} {c : Int} (h : Fil W e v n k c) : n ≤ 9223372036854775807 := by
  obtain ⟨l, h1, h2, _⟩ := h
  rcases h1.2 with ⟨_, h0⟩ | ⟨g, cap', cur, e1, _, _, h3, h4, _⟩
  · omega
  · unfold maxLen at h4; omega
end Go.Proofs.Ythncgocjegalhaa
