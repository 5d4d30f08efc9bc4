
/- An array more on a shelf. -/

import Derived.Test.YtlajainnpnbcaaaBKf

namespace Go.Proofs.Ytlajainnpnbcaaa

open Go.RowKit

set_option linter.unusedVariables false

/-- An array of one's own: its two values, its lists. -/
def Arw (W : World) (x : Value × Value) (z : List Int × List Int) : Prop := ∃ so sn sc ao an ac, x = (.slice so sn sc, .slice ao an ac) ∧ Ft 3 W 0 so sn sc z.1 ∧ Ft 2 W 0 ao an ac z.2
/-- Two arrays in memories apart. -/
def Apt (x y : Value × Value) : Prop := (∀ g, x.1.ownBlock = some g → y.1.ownBlock ≠ some g) ∧ (∀ g, x.2.ownBlock = some g → y.2.ownBlock ≠ some g)
def Inn (S : Nat → Prop) (x : Value × Value) : Prop := (∀ g, x.1.ownBlock = some g → S g) ∧ (∀ g, x.2.ownBlock = some g → S g)
theorem Apt.symm {x y : Value × Value} (h : Apt x y) : Apt y x := ⟨fun g h1 h2 => h.1 g h2 h1, fun g h1 h2 => h.2 g h2 h1⟩
theorem Inn.mono {S S' : Nat → Prop} {x : Value × Value} (h : Inn S x) (hS : ∀ g, S g → S' g) : Inn S' x := ⟨fun g hg => hS g (h.1 g hg), fun g hg => hS g (h.2 g hg)⟩
theorem Ft.chg {S : Nat → Prop} {W W' : World} {e : TypeId} {B n c : Nat} {ao : Option Addr} {z : List Int} (h : Ft e W B ao n c z) (k : Chg S W W') (hS : ∀ g, (Value.slice ao n c).ownBlock = some g → ¬ S g) : Ft e W' B ao n c z := by
  obtain ⟨a, c', e1, h1⟩ := Ft.mk' h.rd.len h.rd.room h.rd.num (k.own h.own hS)
  injection e1 with e1 e2 e3
  subst e1 e3
  exact h1
theorem Arw.chg {S : Nat → Prop} {W W' : World} {x : Value × Value} {z : List Int × List Int} (h : Arw W x z) (k : Chg S W W') (hS : Inn (fun g => ¬ S g) x) : Arw W' x z := by
  obtain ⟨so, sn, sc, ao, an, ac, rfl, h1, h2⟩ := h
  exact ⟨_, _, _, _, _, _, rfl, h1.chg k hS.1, h2.chg k hS.2⟩
theorem Arw.lt {W : World} {x : Value × Value} {z : List Int × List Int} (h : Arw W x z) : Inn (fun g => g < W.heap.size) x := by
  obtain ⟨so, sn, sc, ao, an, ac, rfl, h1, h2⟩ := h
  exact ⟨fun g hg => (h1.own.lt g hg).2, fun g hg => (h2.own.lt g hg).2⟩
theorem Arw.kinds {W : World} {x : Value × Value} {z : List Int × List Int} (h : Arw W x z) : (∀ g, x.1.ownBlock = some g → ∃ cs, W.heap[g]? = some (.cells cs 3 (0, 0))) ∧ (∀ g, x.2.ownBlock = some g → ∃ cs, W.heap[g]? = some (.cells cs 2 (0, 0))) := by
  obtain ⟨so, sn, sc, ao, an, ac, rfl, h1, h2⟩ := h
  exact ⟨fun g hg => ownB h1.own hg, fun g hg => ownB h2.own hg⟩
def fltH (l : List (Value × Value)) : List Value := l.flatMap fun x => [x.1, x.2]
theorem flt_push (l : List (Value × Value)) (x : Value × Value) : fltH (l ++ [x]) = fltH l ++ [x.1, x.2] := by simp [fltH]
theorem flt_at {l : List (Value × Value)} {i : Nat} {x : Value × Value} (h : l[i]? = some x) : (fltH l)[i * 2]? = some x.1 ∧ (fltH l)[i * 2 + 1]? = some x.2 := by
  induction l generalizing i with
  | nil => simp at h
  | cons y r ih =>
    cases i with
    | zero => simp at h; subst h; simp [fltH]
    | succ i =>
      simp at h
      have := ih h
      simp only [fltH, List.flatMap_cons] at this ⊢
      rw [show (i + 1) * 2 = i * 2 + 2 by omega]
      exact ⟨by simpa using this.1, by simpa using this.2⟩
theorem last_of2 {α : Type} {vs : List α} {x v : α} {i : Nat} (h : (vs ++ [x])[i]? = some v) : (vs[i]? = some v ∧ i < vs.length) ∨ (i = vs.length ∧ v = x) := by
  by_cases hlt : i < vs.length
  · rw [List.getElem?_append_left hlt] at h; exact .inl ⟨h, hlt⟩
  · rw [List.getElem?_append_right (by omega)] at h
    match hk : i - vs.length, h with
    | 0, h => simp at h; exact .inr ⟨by omega, h.symm⟩
    | n + 1, h => simp at h

structure Sh (W : World) (S : Nat → Prop) (sb : Nat) (lo wo : Option Addr) (n p lc wc : Nat) (sz : Int) (xs ws : List (Value × Value)) (zs : List (List Int × List Int)) : Prop where
  box : W.heap[sb]? = some (.cells #[.slice lo n lc, .slice wo p wc, .int .i64 sz] 32 (0, 0))
  xl : xs.length = n
  wl : ws.length = p
  zl : zs.length = n
  all : W.ownsRow 0 36 2 (.slice lo n lc) n (fltH xs)
  wer : W.ownsRow 0 36 2 (.slice wo p wc) p (fltH ws)
  lw : ∀ g, (Value.slice lo n lc).ownBlock = some g → (Value.slice wo p wc).ownBlock ≠ some g
  rx : ∀ (i : Nat) (x : Value × Value), xs[i]? = some x → ∃ z, zs[i]? = some z ∧ Arw W x z
  rw : ∀ (i : Nat) (x : Value × Value), ws[i]? = some x → ∃ z, zs[i]? = some z ∧ Arw W x z
  ap : ∀ (i j : Nat) (x y : Value × Value), xs[i]? = some x → xs[j]? = some y → i ≠ j → Apt x y
  aw : ∀ (i j : Nat) (x y : Value × Value), xs[i]? = some x → ws[j]? = some y → Apt x y
  fb : S sb
  fl : ∀ g, (Value.slice lo n lc).ownBlock = some g → S g
  fw : ∀ g, (Value.slice wo p wc).ownBlock = some g → S g
  fx : ∀ (i : Nat) (x : Value × Value), xs[i]? = some x → Inn S x
  fy : ∀ (i : Nat) (x : Value × Value), ws[i]? = some x → Inn S x
  hm : (n : Int) * 800 ≤ sz ∧ (p : Int) * 800 ≤ sz
  hk : n ≤ 41944 ∧ p ≤ 41944
  hz : sz ≤ 9007199254740992
section

variable {W W' : World} {S S' R : Nat → Prop} {sb : Nat} {lo wo : Option Addr} {n p lc wc : Nat} {sz : Int} {xs ws : List (Value × Value)} {zs : List (List Int × List Int)}

theorem Sh.chg (h : Sh W S sb lo wo n p lc wc sz xs ws zs) (k : Chg R W W') (hR : ∀ g, S g → ¬ R g) : Sh W' S sb lo wo n p lc wc sz xs ws zs :=
  ⟨k.at h.box (hR _ h.fb), h.xl, h.wl, h.zl, k.own h.all fun g hg => hR g (h.fl g hg), k.own h.wer fun g hg => hR g (h.fw g hg), h.lw,
    fun i x hi => by obtain ⟨z, h1, h2⟩ := h.rx i x hi; exact ⟨z, h1, h2.chg k ((h.fx i x hi).mono hR)⟩,
    fun i x hi => by obtain ⟨z, h1, h2⟩ := h.rw i x hi; exact ⟨z, h1, h2.chg k ((h.fy i x hi).mono hR)⟩,
    h.ap, h.aw, h.fb, h.fl, h.fw, h.fx, h.fy, h.hm, h.hk, h.hz⟩
theorem Sh.below (h : Sh W S sb lo wo n p lc wc sz xs ws zs) (k : Below W.heap.size W W') : Sh W' S sb lo wo n p lc wc sz xs ws zs :=
  h.chg (R := fun _ => False) (Chg.of_below k (Nat.le_refl _) _) fun _ _ e => e
theorem Sh.mono (h : Sh W S sb lo wo n p lc wc sz xs ws zs) (hS : ∀ g, S g → S' g) : Sh W S' sb lo wo n p lc wc sz xs ws zs :=
  ⟨h.box, h.xl, h.wl, h.zl, h.all, h.wer, h.lw, h.rx, h.rw, h.ap, h.aw, hS _ h.fb, fun g hg => hS g (h.fl g hg), fun g hg => hS g (h.fw g hg), fun i x hi => (h.fx i x hi).mono hS, fun i x hi => (h.fy i x hi).mono hS, h.hm, h.hk, h.hz⟩
/-- No row lies in the shelf's own box. -/
theorem Sh.nobox (h : Sh W S sb lo wo n p lc wc sz xs ws zs) {e s k : Nat} {v : Value} {ys : List Value} (ho : W.ownsRow 0 e s v k ys) (he : e ≠ 32) : ∀ g, v.ownBlock = some g → ¬ (g = sb) := by
  intro g hg e1
  subst e1
  obtain ⟨cs, hc⟩ := ownB ho hg
  exact he (kindB hc h.box)
theorem Sh.nobox2 (h : Sh W S sb lo wo n p lc wc sz xs ws zs) {x : Value × Value} {z : List Int × List Int} (ho : Arw W x z) : Inn (fun g => ¬ (g = sb)) x :=
  ⟨fun g hg e => by subst e; obtain ⟨cs, hc⟩ := ho.kinds.1 g hg; exact absurd (kindB hc h.box) (by decide), fun g hg e => by subst e; obtain ⟨cs, hc⟩ := ho.kinds.2 g hg; exact absurd (kindB hc h.box) (by decide)⟩
/-- The size is written. -/
theorem Sh.size (h : Sh W S sb lo wo n p lc wc sz xs ws zs) (sz' : Int) (h1 : sz ≤ sz') (h2 : sz' ≤ 9007199254740992) : Sh (W.setCell ⟨sb, 2, none⟩ (.int .i64 sz')) S sb lo wo n p lc wc sz' xs ws zs ∧ Chg (fun g => g = sb) W (W.setCell ⟨sb, 2, none⟩ (.int .i64 sz')) := by
  have k : Chg (fun g => g = sb) W (W.setCell ⟨sb, 2, none⟩ (.int .i64 sz')) := (Chg.of_grown (set1 W sb 2 (.int .i64 sz'))).mono fun j _ e => (Option.some.inj e).symm
  have b := heap_setCell_same W sb 2 #[.slice lo n lc, .slice wo p wc, .int .i64 sz] 32 (.int .i64 sz') h.box
  refine ⟨⟨b, h.xl, h.wl, h.zl, k.own h.all (h.nobox h.all (by decide)), k.own h.wer (h.nobox h.wer (by decide)), h.lw,
    fun i x hi => by obtain ⟨z, h1, h2⟩ := h.rx i x hi; exact ⟨z, h1, h2.chg k (h.nobox2 h2)⟩,
    fun i x hi => by obtain ⟨z, h1, h2⟩ := h.rw i x hi; exact ⟨z, h1, h2.chg k (h.nobox2 h2)⟩, h.ap, h.aw, h.fb, h.fl, h.fw, h.fx, h.fy, ⟨by have := h.hm.1; omega, by have := h.hm.2; omega⟩, h.hk, h2⟩, k⟩
/-- The foot lies in what is there. -/
theorem Sh.trim (h : Sh W S sb lo wo n p lc wc sz xs ws zs) : Sh W (fun g => S g ∧ g < W.heap.size) sb lo wo n p lc wc sz xs ws zs :=
  ⟨h.box, h.xl, h.wl, h.zl, h.all, h.wer, h.lw, h.rx, h.rw, h.ap, h.aw, ⟨h.fb, (Array.getElem?_eq_some_iff.1 h.box).1⟩, fun g hg => ⟨h.fl g hg, (h.all.lt g hg).2⟩, fun g hg => ⟨h.fw g hg, (h.wer.lt g hg).2⟩,
    fun i x hi => by obtain ⟨z, _, h2⟩ := h.rx i x hi; exact ⟨fun g hg => ⟨(h.fx i x hi).1 g hg, h2.lt.1 g hg⟩, fun g hg => ⟨(h.fx i x hi).2 g hg, h2.lt.2 g hg⟩⟩,
    fun i x hi => by obtain ⟨z, _, h2⟩ := h.rw i x hi; exact ⟨fun g hg => ⟨(h.fy i x hi).1 g hg, h2.lt.1 g hg⟩, fun g hg => ⟨(h.fy i x hi).2 g hg, h2.lt.2 g hg⟩⟩, h.hm, h.hk, h.hz⟩
end

end Go.Proofs.Ytlajainnpnbcaaa

namespace Go.Proofs.Ytlajainnpnbcaaa

open Go.RowKit

set_option linter.unusedVariables false

section

variable {W W' : World} {S S' R : Nat → Prop} {sb : Nat} {lo wo : Option Addr} {n p lc wc : Nat} {sz : Int} {xs ws : List (Value × Value)} {zs : List (List Int × List Int)}

theorem Sh.pushX {A W9 : World} {x : Value × Value} {z : List Int × List Int} {v' : Value} (h : Sh W S sb lo wo n p lc wc sz xs ws zs) (hx : Arw W x z) (hne : Inn (fun g => ¬ S g) x) (bA : Below W.heap.size W A)
    (r9 : W9.ownsRow 0 36 2 v' (n + 1) (fltH xs ++ [x.1, x.2])) (g9 : A.grownBy W9 (Value.slice lo n lc).ownBlock) (a9 : v'.ownBlock = (Value.slice lo n lc).ownBlock ∨ v'.ownBlock = some A.heap.size) (hz : ((n + 1 : Nat) : Int) * 800 ≤ sz) (hk : n + 1 ≤ 41944)
    (hS : ∀ g, S g → S' g) (hN : ∀ g, W.heap.size ≤ g → S' g) (hX : Inn S' x) :
    ∃ so' sc', v' = .slice so' (n + 1) sc' ∧ Sh (W9.setCell ⟨sb, 0, none⟩ v') S' sb so' wo (n + 1) p sc' wc sz (xs ++ [x]) ws (zs ++ [z]) ∧ Chg (fun g => (Value.slice lo n lc).ownBlock = some g ∨ g = sb) W (W9.setCell ⟨sb, 0, none⟩ v') := by
  obtain ⟨so', sc', rfl⟩ : ∃ a c, v' = .slice a (n + 1) c := by
    rcases r9.2 with ⟨_, h0⟩ | ⟨g, cap, cur, e, _⟩
    · omega
    · exact ⟨_, _, e⟩
  refine ⟨so', sc', rfl, ?_⟩
  have hA := h.below bA
  have xA := hx.chg (Chg.of_below bA (Nat.le_refl _) (fun _ => False)) ⟨fun _ _ e => e, fun _ _ e => e⟩
  have k9 := Chg.of_grown g9
  have bB : W9.heap[sb]? = some (.cells #[.slice lo n lc, .slice wo p wc, .int .i64 sz] 32 (0, 0)) := k9.at hA.box fun e => by
    obtain ⟨cs, hc⟩ := ownB hA.all e
    exact absurd (kindB hA.box hc) (by decide)
  have kS := Chg.of_grown (set1 W9 sb 0 (.slice so' (n + 1) sc'))
  have kT : Chg (fun g => (Value.slice lo n lc).ownBlock = some g ∨ g = sb) A (W9.setCell ⟨sb, 0, none⟩ (.slice so' (n + 1) sc')) := (k9.mono fun _ _ e => .inl e).trans (kS.mono fun _ _ e => .inr (Option.some.inj e).symm)
  have typ : ∀ {x : Value × Value} {z : List Int × List Int}, Arw A x z → Inn (fun g => ¬ ((Value.slice lo n lc).ownBlock = some g ∨ g = sb)) x := by
    intro x z ho
    refine ⟨fun g hg hh => ?_, fun g hg hh => ?_⟩
    · obtain ⟨cs, hc⟩ := ho.kinds.1 g hg
      rcases hh with hh | rfl
      · obtain ⟨cs', hc'⟩ := ownB hA.all hh
        exact absurd (kindB hc hc') (by decide)
      · exact absurd (kindB hc hA.box) (by decide)
    · obtain ⟨cs, hc⟩ := ho.kinds.2 g hg
      rcases hh with hh | rfl
      · obtain ⟨cs', hc'⟩ := ownB hA.all hh
        exact absurd (kindB hc hc') (by decide)
      · exact absurd (kindB hc hA.box) (by decide)
  have r10 : (W9.setCell ⟨sb, 0, none⟩ (.slice so' (n + 1) sc')).ownsRow 0 36 2 (.slice so' (n + 1) sc') (n + 1) (fltH xs ++ [x.1, x.2]) := kS.own r9 fun g hv e => by
    obtain ⟨cs, hc⟩ := ownB r9 hv
    rw [← Option.some.inj e] at hc
    exact absurd (kindB bB hc) (by decide)
  have o10 := kT.own hA.wer fun g hg hh => by
    rcases hh with hh | hh
    · exact h.lw g hh hg
    · exact h.nobox h.wer (by decide) g hg hh
  have b10 := heap_setCell_same W9 sb 0 #[.slice lo n lc, .slice wo p wc, .int .i64 sz] 32 (.slice so' (n + 1) sc') bB
  have vS : ∀ g, (Value.slice so' (n + 1) sc').ownBlock = some g → S' g := fun g hg => by
    rcases a9 with e | e
    · rw [e] at hg; exact hS g (h.fl g hg)
    · rw [e] at hg; injection hg with hg; exact hN g (by rw [← hg]; exact bA.size)
  have lw' : ∀ g, (Value.slice so' (n + 1) sc').ownBlock = some g → (Value.slice wo p wc).ownBlock ≠ some g := fun g hg e => by
    rcases a9 with e1 | e1
    · rw [e1] at hg; exact h.lw g hg e
    · rw [e1] at hg; injection hg with hg; have := (h.wer.lt g e).2; have := bA.size; omega
  have rx' : ∀ (i : Nat) (y : Value × Value), xs[i]? = some y → ∃ z, zs[i]? = some z ∧ Arw (W9.setCell ⟨sb, 0, none⟩ (.slice so' (n + 1) sc')) y z := fun i y hi => by obtain ⟨z, h1, h2⟩ := hA.rx i y hi; exact ⟨z, h1, h2.chg kT (typ h2)⟩
  have rw' : ∀ (i : Nat) (y : Value × Value), ws[i]? = some y → ∃ z, zs[i]? = some z ∧ Arw (W9.setCell ⟨sb, 0, none⟩ (.slice so' (n + 1) sc')) y z := fun i y hi => by obtain ⟨z, h1, h2⟩ := hA.rw i y hi; exact ⟨z, h1, h2.chg kT (typ h2)⟩
  have x' := xA.chg kT (typ xA)
  have apx : ∀ y, Inn S y → Apt x y := fun y hy => ⟨fun g h1 h2 => hne.1 g h1 (hy.1 g h2), fun g h1 h2 => hne.2 g h1 (hy.2 g h2)⟩
  have kk : Chg (fun g => (Value.slice lo n lc).ownBlock = some g ∨ g = sb) W (W9.setCell ⟨sb, 0, none⟩ (.slice so' (n + 1) sc')) := (Chg.of_below bA (Nat.le_refl _) _).trans kT
  refine ⟨⟨b10, by simp [h.xl], h.wl, by simp [h.zl], by rw [flt_push]; exact r10, o10, lw', fun i y hi => ?_, fun i y hi => ?_, fun i j y u hi hj hij => ?_, fun i j y u hi hj => ?_, hS _ h.fb, vS, fun g hg => hS g (h.fw g hg), fun i y hi => ?_, fun i y hi => (h.fy i y hi).mono hS, ⟨hz, h.hm.2⟩, ⟨hk, h.hk.2⟩, h.hz⟩, kk⟩
  · rcases last_of2 hi with ⟨hi, hlt⟩ | ⟨rfl, rfl⟩
    · obtain ⟨z0, h1, h2⟩ := rx' i y hi
      exact ⟨z0, by rw [List.getElem?_append_left (by rw [h.zl, ← h.xl]; exact hlt)]; exact h1, h2⟩
    · exact ⟨z, by rw [h.xl, ← h.zl]; simp, x'⟩
  · obtain ⟨z0, h1, h2⟩ := rw' i y hi
    exact ⟨z0, by rw [List.getElem?_append_left (List.getElem?_eq_some_iff.1 h1).1]; exact h1, h2⟩
  · rcases last_of2 hi with ⟨hi', _⟩ | ⟨e1, e2⟩ <;> rcases last_of2 hj with ⟨hj', _⟩ | ⟨e3, e4⟩
    · exact h.ap i j y u hi' hj' hij
    · subst e4; exact (apx y (h.fx i y hi')).symm
    · subst e2; exact apx u (h.fx j u hj')
    · omega
  · rcases last_of2 hi with ⟨hi', _⟩ | ⟨e1, e2⟩
    · exact h.aw i j y u hi' hj
    · subst e2; exact apx u (h.fy j u hj)
  · rcases last_of2 hi with ⟨hi', _⟩ | ⟨e1, e2⟩
    · exact (h.fx i y hi').mono hS
    · subst e2; exact hX
theorem Sh.pushW {A W9 : World} {x : Value × Value} {z : List Int × List Int} {v' : Value} (h : Sh W S sb lo wo n p lc wc sz xs ws zs) (hx : Arw W x z) (hne : Inn (fun g => ¬ S g) x) (bA : Below W.heap.size W A)
    (r9 : W9.ownsRow 0 36 2 v' (p + 1) (fltH ws ++ [x.1, x.2])) (g9 : A.grownBy W9 (Value.slice wo p wc).ownBlock) (a9 : v'.ownBlock = (Value.slice wo p wc).ownBlock ∨ v'.ownBlock = some A.heap.size) (hz : ((p + 1 : Nat) : Int) * 800 ≤ sz) (hk : p + 1 ≤ 41944) (hzz : zs[p]? = some z)
    (hS : ∀ g, S g → S' g) (hN : ∀ g, W.heap.size ≤ g → S' g) (hX : Inn S' x) :
    ∃ so' sc', v' = .slice so' (p + 1) sc' ∧ Sh (W9.setCell ⟨sb, 1, none⟩ v') S' sb lo so' n (p + 1) lc sc' sz xs (ws ++ [x]) zs ∧ Chg (fun g => (Value.slice wo p wc).ownBlock = some g ∨ g = sb) W (W9.setCell ⟨sb, 1, none⟩ v') := by
  obtain ⟨so', sc', rfl⟩ : ∃ a c, v' = .slice a (p + 1) c := by
    rcases r9.2 with ⟨_, h0⟩ | ⟨g, cap, cur, e, _⟩
    · omega
    · exact ⟨_, _, e⟩
  refine ⟨so', sc', rfl, ?_⟩
  have hA := h.below bA
  have xA := hx.chg (Chg.of_below bA (Nat.le_refl _) (fun _ => False)) ⟨fun _ _ e => e, fun _ _ e => e⟩
  have k9 := Chg.of_grown g9
  have bB : W9.heap[sb]? = some (.cells #[.slice lo n lc, .slice wo p wc, .int .i64 sz] 32 (0, 0)) := k9.at hA.box fun e => by
    obtain ⟨cs, hc⟩ := ownB hA.wer e
    exact absurd (kindB hA.box hc) (by decide)
  have kS := Chg.of_grown (set1 W9 sb 1 (.slice so' (p + 1) sc'))
  have kT : Chg (fun g => (Value.slice wo p wc).ownBlock = some g ∨ g = sb) A (W9.setCell ⟨sb, 1, none⟩ (.slice so' (p + 1) sc')) := (k9.mono fun _ _ e => .inl e).trans (kS.mono fun _ _ e => .inr (Option.some.inj e).symm)
  have typ : ∀ {x : Value × Value} {z : List Int × List Int}, Arw A x z → Inn (fun g => ¬ ((Value.slice wo p wc).ownBlock = some g ∨ g = sb)) x := by
    intro x z ho
    refine ⟨fun g hg hh => ?_, fun g hg hh => ?_⟩
    · obtain ⟨cs, hc⟩ := ho.kinds.1 g hg
      rcases hh with hh | rfl
      · obtain ⟨cs', hc'⟩ := ownB hA.wer hh
        exact absurd (kindB hc hc') (by decide)
      · exact absurd (kindB hc hA.box) (by decide)
    · obtain ⟨cs, hc⟩ := ho.kinds.2 g hg
      rcases hh with hh | rfl
      · obtain ⟨cs', hc'⟩ := ownB hA.wer hh
        exact absurd (kindB hc hc') (by decide)
      · exact absurd (kindB hc hA.box) (by decide)
  have r10 : (W9.setCell ⟨sb, 1, none⟩ (.slice so' (p + 1) sc')).ownsRow 0 36 2 (.slice so' (p + 1) sc') (p + 1) (fltH ws ++ [x.1, x.2]) := kS.own r9 fun g hv e => by
    obtain ⟨cs, hc⟩ := ownB r9 hv
    rw [← Option.some.inj e] at hc
    exact absurd (kindB bB hc) (by decide)
  have o10 := kT.own hA.all fun g hg hh => by
    rcases hh with hh | hh
    · exact h.lw g hg hh
    · exact h.nobox h.all (by decide) g hg hh
  have b10 := heap_setCell_same W9 sb 1 #[.slice lo n lc, .slice wo p wc, .int .i64 sz] 32 (.slice so' (p + 1) sc') bB
  have vS : ∀ g, (Value.slice so' (p + 1) sc').ownBlock = some g → S' g := fun g hg => by
    rcases a9 with e | e
    · rw [e] at hg; exact hS g (h.fw g hg)
    · rw [e] at hg; injection hg with hg; exact hN g (by rw [← hg]; exact bA.size)
  have lw' : ∀ g, (Value.slice so' (p + 1) sc').ownBlock = some g → (Value.slice lo n lc).ownBlock ≠ some g := fun g hg e => by
    rcases a9 with e1 | e1
    · rw [e1] at hg; exact h.lw g e hg
    · rw [e1] at hg; injection hg with hg; have := (h.all.lt g e).2; have := bA.size; omega
  have rx' : ∀ (i : Nat) (y : Value × Value), xs[i]? = some y → ∃ z, zs[i]? = some z ∧ Arw (W9.setCell ⟨sb, 1, none⟩ (.slice so' (p + 1) sc')) y z := fun i y hi => by obtain ⟨z, h1, h2⟩ := hA.rx i y hi; exact ⟨z, h1, h2.chg kT (typ h2)⟩
  have rw' : ∀ (i : Nat) (y : Value × Value), ws[i]? = some y → ∃ z, zs[i]? = some z ∧ Arw (W9.setCell ⟨sb, 1, none⟩ (.slice so' (p + 1) sc')) y z := fun i y hi => by obtain ⟨z, h1, h2⟩ := hA.rw i y hi; exact ⟨z, h1, h2.chg kT (typ h2)⟩
  have x' := xA.chg kT (typ xA)
  have apx : ∀ y, Inn S y → Apt x y := fun y hy => ⟨fun g h1 h2 => hne.1 g h1 (hy.1 g h2), fun g h1 h2 => hne.2 g h1 (hy.2 g h2)⟩
  have kk : Chg (fun g => (Value.slice wo p wc).ownBlock = some g ∨ g = sb) W (W9.setCell ⟨sb, 1, none⟩ (.slice so' (p + 1) sc')) := (Chg.of_below bA (Nat.le_refl _) _).trans kT
  refine ⟨⟨b10, h.xl, by simp [h.wl], h.zl, o10, by rw [flt_push]; exact r10, fun g h1 h2 => lw' g h2 h1, rx', fun i y hi => ?_, h.ap, fun i j y u hi hj => ?_, hS _ h.fb, fun g hg => hS g (h.fl g hg), vS, fun i y hi => (h.fx i y hi).mono hS, fun i y hi => ?_, ⟨h.hm.1, hz⟩, ⟨h.hk.1, hk⟩, h.hz⟩, kk⟩
  · rcases last_of2 hi with ⟨hi, hlt⟩ | ⟨rfl, rfl⟩
    · exact rw' i y hi
    · exact ⟨z, by rw [h.wl]; exact hzz, x'⟩
  · rcases last_of2 hj with ⟨hj', _⟩ | ⟨e1, e2⟩
    · exact h.aw i j y u hi hj'
    · subst e2; exact (apx y (h.fx i y hi)).symm
  · rcases last_of2 hi with ⟨hi', _⟩ | ⟨e1, e2⟩
    · exact (h.fy i y hi').mono hS
    · subst e2; exact hX
end

theorem infoArr : (Try.prog.info? 36).map (fun i => (i.zero, i.size, i.bytes)) = some (some (.agg #[.slice none 0 0, .slice none 0 0]), 2, 48) := by kernel_rfl
/-- An array more in a row of arrays, as one step of a region that draws its order. -/
theorem step_push2 {t : TypeId} (hund : Try.prog.underlying t = some (.slice 36)) {ops : Array Oper} {o : Oper} {a : Act} {w : World} {K : Act → World → Prop} {Q : Exit → Act → World → Prop} {E : Prop}
    (hg : o.guard = none) (s x : Operand) (hop : o.op = Op.call { callee := Callee.builtin Builtin.append, args := #[s, x], argTypes := #[t, t] })
    (v : Value) (n : Nat) (xs : List Value) (hs : a.eval s = v) (hown : w.ownsRow 0 36 2 v n xs) (g : Nat) (hx : a.eval x = .slice (some ⟨g, 0, none⟩) 1 1) (y : Value × Value) (hc0 : w.cell? ⟨g, 0, none⟩ = some y.1) (hc1 : w.cell? ⟨g, 1, none⟩ = some y.2) (hy0 : y.1.oneCell' = true) (hy1 : y.2.oneCell' = true) (hn : n ≤ 41944)
    (hK : ∀ v' w', w'.ownsRow 0 36 2 v' (n + 1) (xs ++ [y.1, y.2]) → w.grownBy w' v.ownBlock → (v'.ownBlock = v.ownBlock ∨ v'.ownBlock = some w.heap.size) → K (a.put o.dst v') w') :
    if Region.wanted o (yielded ops a.tmps) = true then Oper.wp Try.prog o a w K Q else E := by
  have hw : Region.wanted o (yielded ops a.tmps) = true := by simp [Region.wanted, hg]
  rw [if_pos hw]
  obtain ⟨i0, hi, hh⟩ := Option.map_eq_some_iff.1 infoArr
  simp only [Prod.mk.injEq] at hh
  obtain ⟨hz0, hz1, hz2⟩ := hh
  obtain ⟨v', w', hrun, h1, h2, _, h4⟩ := run_append_own_at (P := Try.prog) w 0 t o.type 36 i0 (.agg #[.slice none 0 0, .slice none 0 0]) 2 48 hund hi hz0 hz1 hz2 rfl (by decide) v n xs hown ⟨g, 0, none⟩ 1 1 [y.1, y.2] rfl
    (fun j u hj => by
      match j, hj with
      | 0, hj => simp at hj; subst hj; simpa [Addr.add] using hc0
      | 1, hj => simp at hj; subst hj; simpa [Addr.add] using hc1) (fun u hu => by rcases List.mem_cons.1 hu with h | h; (· rw [h]; exact hy0); (· rw [List.mem_singleton.1 h]; exact hy1)) (by unfold maxLen; omega) (by omega) (Nat.zero_le _)
  unfold Oper.wp
  simp [execOp, hop, resolve, invoke, builtin, hs, hx, hrun, Result.andThen]
  exact hK _ _ h1 h2 h4
end Go.Proofs.Ytlajainnpnbcaaa
