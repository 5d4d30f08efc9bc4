
/- A shelf of arrays, and what they were. -/

import Derived.Test.YthncgocjegalhaaBKf

namespace Go.Proofs.Ythncgocjegalhaa

open Go.RowKit

set_option linter.unusedVariables false

/-- An array of one's own: its two values, its lists. -/
def Arw (W : World) (x : Value × Value) (z : List Int × List Int) : Prop := ∃ so sn sc ao an ac, x = (.slice so sn sc, .slice ao an ac) ∧ Ft 3 W 0 so sn sc z.1 ∧ Ft 2 W 0 ao an ac z.2
/-- Two arrays in memories apart. -/
def Apt (x y : Value × Value) : Prop := (∀ g, x.1.ownBlock = some g → y.1.ownBlock ≠ some g) ∧ (∀ g, x.2.ownBlock = some g → y.2.ownBlock ≠ some g)
def Inn (S : Nat → Prop) (x : Value × Value) : Prop := (∀ g, x.1.ownBlock = some g → S g) ∧ (∀ g, x.2.ownBlock = some g → S g)
theorem Apt.symm {x y : Value × Value} (h : Apt x y) : Apt y x := ⟨fun g h1 h2 => h.1 g h2 h1, fun g h1 h2 => h.2 g h2 h1⟩
theorem Inn.mono {S S' : Nat → Prop} {x : Value × Value} (h : Inn S x) (hS : ∀ g, S g → S' g) : Inn S' x := ⟨fun g hg => hS g (h.1 g hg), fun g hg => hS g (h.2 g hg)⟩
theorem Ft.chg {S : Nat → Prop} {W W' : World} {e : TypeId} {B n c : Nat} {ao : Option Addr} {z : List Int} (h : Ft e W B ao n c z) (k : Chg S W W') (hS : ∀ g, (Value.slice ao n c).ownBlock = some g → ¬ S g) : Ft e W' B ao n c z := by
  obtain ⟨a, c', e1, h1⟩ := Ft.mk' h.rd.len h.rd.room h.rd.num (k.own h.own hS)
  injection e1 with e1 e2 e3
  subst e1 e3
  exact h1
theorem Arw.chg {S : Nat → Prop} {W W' : World} {x : Value × Value} {z : List Int × List Int} (h : Arw W x z) (k : Chg S W W') (hS : Inn (fun g => ¬ S g) x) : Arw W' x z := by
  obtain ⟨so, sn, sc, ao, an, ac, rfl, h1, h2⟩ := h
  exact ⟨_, _, _, _, _, _, rfl, h1.chg k hS.1, h2.chg k hS.2⟩
theorem Arw.lt {W : World} {x : Value × Value} {z : List Int × List Int} (h : Arw W x z) : Inn (fun g => g < W.heap.size) x := by
  obtain ⟨so, sn, sc, ao, an, ac, rfl, h1, h2⟩ := h
  exact ⟨fun g hg => (h1.own.lt g hg).2, fun g hg => (h2.own.lt g hg).2⟩
theorem Arw.kinds {W : World} {x : Value × Value} {z : List Int × List Int} (h : Arw W x z) : (∀ g, x.1.ownBlock = some g → ∃ cs, W.heap[g]? = some (.cells cs 3 (0, 0))) ∧ (∀ g, x.2.ownBlock = some g → ∃ cs, W.heap[g]? = some (.cells cs 2 (0, 0))) := by
  obtain ⟨so, sn, sc, ao, an, ac, rfl, h1, h2⟩ := h
  exact ⟨fun g hg => ownB h1.own hg, fun g hg => ownB h2.own hg⟩
def flt (l : List (Value × Value)) : List Value := l.flatMap fun x => [x.1, x.2]
theorem flt_push (l : List (Value × Value)) (x : Value × Value) : flt (l ++ [x]) = flt l ++ [x.1, x.2] := by simp [flt]
theorem flt_at {l : List (Value × Value)} {i : Nat} {x : Value × Value} (h : l[i]? = some x) : (flt l)[i * 2]? = some x.1 ∧ (flt l)[i * 2 + 1]? = some x.2 := by
  induction l generalizing i with
  | nil => simp at h
  | cons y r ih =>
    cases i with
    | zero => simp at h; subst h; simp [flt]
    | succ i =>
      simp at h
      have := ih h
      simp only [flt, List.flatMap_cons] at this ⊢
      rw [show (i + 1) * 2 = i * 2 + 2 by omega]
      exact ⟨by simpa using this.1, by simpa using this.2⟩
theorem last_of2 {α : Type} {vs : List α} {x v : α} {i : Nat} (h : (vs ++ [x])[i]? = some v) : (vs[i]? = some v ∧ i < vs.length) ∨ (i = vs.length ∧ v = x) := by
  by_cases hlt : i < vs.length
  · rw [List.getElem?_append_left hlt] at h; exact .inl ⟨h, hlt⟩
  · rw [List.getElem?_append_right (by omega)] at h
    match hk : i - vs.length, h with
    | 0, h => simp at h; exact .inr ⟨by omega, h.symm⟩
    | n + 1, h => simp at h

structure Sh (W : World) (S : Nat → Prop) (sb : Nat) (lo wo : Option Addr) (n p lc wc : Nat) (sz : Int) (xs ws : List (Value × Value)) (zs : List (List Int × List Int)) : Prop where
  box : W.heap[sb]? = some (.cells #[.slice lo n lc, .slice wo p wc, .int .i64 sz] 32 (0, 0))
  xl : xs.length = n
  wl : ws.length = p
  zl : zs.length = n
  all : W.ownsRow 0 36 2 (.slice lo n lc) n (flt xs)
  wer : W.ownsRow 0 36 2 (.slice wo p wc) p (flt ws)
  lw : ∀ g, (Value.slice lo n lc).ownBlock = some g → (Value.slice wo p wc).ownBlock ≠ some g
  rx : ∀ (i : Nat) (x : Value × Value), xs[i]? = some x → ∃ z, zs[i]? = some z ∧ Arw W x z
  rw : ∀ (i : Nat) (x : Value × Value), ws[i]? = some x → ∃ z, zs[i]? = some z ∧ Arw W x z
  ap : ∀ (i j : Nat) (x y : Value × Value), xs[i]? = some x → xs[j]? = some y → i ≠ j → Apt x y
  aw : ∀ (i j : Nat) (x y : Value × Value), xs[i]? = some x → ws[j]? = some y → Apt x y
  fb : S sb
  fl : ∀ g, (Value.slice lo n lc).ownBlock = some g → S g
  fw : ∀ g, (Value.slice wo p wc).ownBlock = some g → S g
  fx : ∀ (i : Nat) (x : Value × Value), xs[i]? = some x → Inn S x
  fy : ∀ (i : Nat) (x : Value × Value), ws[i]? = some x → Inn S x
  hm : (n : Int) * 800 ≤ sz ∧ (p : Int) * 800 ≤ sz
  hk : n ≤ 41944 ∧ p ≤ 41944
  hz : sz ≤ 9007199254740992
section
variable {W W' : World} {S S' R : Nat → Prop} {sb : Nat} {lo wo : Option Addr} {n p lc wc : Nat} {sz : Int} {xs ws : List (Value × Value)} {zs : List (List Int × List Int)}

theorem Sh.chg (h : Sh W S sb lo wo n p lc wc sz xs ws zs) (k : Chg R W W') (hR : ∀ g, S g → ¬ R g) : Sh W' S sb lo wo n p lc wc sz xs ws zs :=
  ⟨k.at h.box (hR _ h.fb), h.xl, h.wl, h.zl, k.own h.all fun g hg => hR g (h.fl g hg), k.own h.wer fun g hg => hR g (h.fw g hg), h.lw,
    fun i x hi => by obtain ⟨z, h1, h2⟩ := h.rx i x hi; exact ⟨z, h1, h2.chg k ((h.fx i x hi).mono hR)⟩,
    fun i x hi => by obtain ⟨z, h1, h2⟩ := h.rw i x hi; exact ⟨z, h1, h2.chg k ((h.fy i x hi).mono hR)⟩,
    h.ap, h.aw, h.fb, h.fl, h.fw, h.fx, h.fy, h.hm, h.hk, h.hz⟩
theorem Sh.below (h : Sh W S sb lo wo n p lc wc sz xs ws zs) (k : Below W.heap.size W W') : Sh W' S sb lo wo n p lc wc sz xs ws zs :=
  h.chg (R := fun _ => False) (Chg.of_below k (Nat.le_refl _) _) fun _ _ e => e
theorem Sh.mono (h : Sh W S sb lo wo n p lc wc sz xs ws zs) (hS : ∀ g, S g → S' g) : Sh W S' sb lo wo n p lc wc sz xs ws zs :=
  ⟨h.box, h.xl, h.wl, h.zl, h.all, h.wer, h.lw, h.rx, h.rw, h.ap, h.aw, hS _ h.fb, fun g hg => hS g (h.fl g hg), fun g hg => hS g (h.fw g hg), fun i x hi => (h.fx i x hi).mono hS, fun i x hi => (h.fy i x hi).mono hS, h.hm, h.hk, h.hz⟩
/-- No row lies in the shelf's own box. -/
theorem Sh.nobox (h : Sh W S sb lo wo n p lc wc sz xs ws zs) {e s k : Nat} {v : Value} {ys : List Value} (ho : W.ownsRow 0 e s v k ys) (he : e ≠ 32) : ∀ g, v.ownBlock = some g → ¬ (g = sb) := by
  intro g hg e1
  subst e1
  obtain ⟨cs, hc⟩ := ownB ho hg
  exact he (kindB hc h.box)
theorem Sh.nobox2 (h : Sh W S sb lo wo n p lc wc sz xs ws zs) {x : Value × Value} {z : List Int × List Int} (ho : Arw W x z) : Inn (fun g => ¬ (g = sb)) x :=
  ⟨fun g hg e => by subst e; obtain ⟨cs, hc⟩ := ho.kinds.1 g hg; exact absurd (kindB hc h.box) (by decide), fun g hg e => by subst e; obtain ⟨cs, hc⟩ := ho.kinds.2 g hg; exact absurd (kindB hc h.box) (by decide)⟩
/-- The size is written. -/
theorem Sh.size (h : Sh W S sb lo wo n p lc wc sz xs ws zs) (sz' : Int) (h1 : sz ≤ sz') (h2 : sz' ≤ 9007199254740992) : Sh (W.setCell ⟨sb, 2, none⟩ (.int .i64 sz')) S sb lo wo n p lc wc sz' xs ws zs ∧ Chg (fun g => g = sb) W (W.setCell ⟨sb, 2, none⟩ (.int .i64 sz')) := by
  have k : Chg (fun g => g = sb) W (W.setCell ⟨sb, 2, none⟩ (.int .i64 sz')) := (Chg.of_grown (set1 W sb 2 (.int .i64 sz'))).mono fun j _ e => (Option.some.inj e).symm
  have b := heap_setCell_same W sb 2 #[.slice lo n lc, .slice wo p wc, .int .i64 sz] 32 (.int .i64 sz') h.box
  refine ⟨⟨b, h.xl, h.wl, h.zl, k.own h.all (h.nobox h.all (by decide)), k.own h.wer (h.nobox h.wer (by decide)), h.lw,
    fun i x hi => by obtain ⟨z, h1, h2⟩ := h.rx i x hi; exact ⟨z, h1, h2.chg k (h.nobox2 h2)⟩,
    fun i x hi => by obtain ⟨z, h1, h2⟩ := h.rw i x hi; exact ⟨z, h1, h2.chg k (h.nobox2 h2)⟩, h.ap, h.aw, h.fb, h.fl, h.fw, h.fx, h.fy, ⟨by have := h.hm.1; omega, by have := h.hm.2; omega⟩, h.hk, h2⟩, k⟩
/-- The foot lies in what is there. -/
theorem Sh.trim (h : Sh W S sb lo wo n p lc wc sz xs ws zs) : Sh W (fun g => S g ∧ g < W.heap.size) sb lo wo n p lc wc sz xs ws zs :=
  ⟨h.box, h.xl, h.wl, h.zl, h.all, h.wer, h.lw, h.rx, h.rw, h.ap, h.aw, ⟨h.fb, (Array.getElem?_eq_some_iff.1 h.box).1⟩, fun g hg => ⟨h.fl g hg, (h.all.lt g hg).2⟩, fun g hg => ⟨h.fw g hg, (h.wer.lt g hg).2⟩,
    fun i x hi => by obtain ⟨z, _, h2⟩ := h.rx i x hi; exact ⟨fun g hg => ⟨(h.fx i x hi).1 g hg, h2.lt.1 g hg⟩, fun g hg => ⟨(h.fx i x hi).2 g hg, h2.lt.2 g hg⟩⟩,
    fun i x hi => by obtain ⟨z, _, h2⟩ := h.rw i x hi; exact ⟨fun g hg => ⟨(h.fy i x hi).1 g hg, h2.lt.1 g hg⟩, fun g hg => ⟨(h.fy i x hi).2 g hg, h2.lt.2 g hg⟩⟩, h.hm, h.hk, h.hz⟩
end

end Go.Proofs.Ythncgocjegalhaa
