
/- The law's own: a term in memory of its own. -/

import Derived.Test.YtiahilelcppfgaaGreatOA

namespace Go.Proofs.YtiahilelcppfgaaGreat

open Go.RowKit

set_option linter.unusedVariables false

theorem own_kb {Q : Nat → Prop} {W V : World} {B s n : Nat} {e : TypeId} {v : Value} {xs : List Value} (h : W.ownsRow B e s v n xs) (u : Kb Q W V) (hb : ∀ g, v.ownBlock = some g → Q g) : V.ownsRow B e s v n xs := by
  refine ⟨h.1, ?_⟩
  rcases h.2 with ⟨e1, h0⟩ | ⟨g, cap, cur, e1, hB, hg, q⟩
  · exact .inl ⟨e1, h0⟩
  · exact .inr ⟨g, cap, cur, e1, hB, (u.block g (hb g (by rw [e1]; rfl)) (Array.getElem?_eq_some_iff.1 hg).1).trans hg, q⟩
theorem Ft.kb {Q : Nat → Prop} {e : TypeId} {W V : World} {B : Nat} {ao : Option Addr} {n c : Nat} {zs : List Int} (h : Ft e W B ao n c zs) (u : Kb Q W V) (hb : ∀ a, ao = some a → Q a.block) : Ft e V B ao n c zs :=
  ⟨h.rd.kb u hb, own_kb h.own u fun g eg => by
    cases ao with
    | none => cases eg
    | some a => have := hb a rfl; injection eg with eg; rw [← eg]; exact this⟩
/-- One kid more: the box, the numbers, the kids. -/
theorem own_step {d : Nat} {ks : List (Tr d)} {y : Tr d} {a0 a1 a2 a3 a4 v0 v1 v2 v3 v4 v5 : Value} {o o' : Option Addr} {c c' j : Nat} {vals : List Value} {w W7 wr W8 V3 : World} (szw : w.heap.size + 1 < W7.heap.size) (hy : ks[j]? = some y)
    (B : Cb w wr a0 a1 a2 a3 a4 (.slice o j c)) (M : Mid (w.heap.size + 2) W7.heap.size W7 wr) (K : Ko d ks wr W7.heap.size j o c vals) (b8 : Below wr.heap.size wr W8) (tq : Tq (fun b => wr.heap.size ≤ b ∧ b < W8.heap.size) W8 d y [v0, v1, v2, v3, v4, v5])
    (hown : V3.ownsRow W7.heap.size 31 6 (.slice o' (j + 1) c') (j + 1) (vals ++ [v0, v1, v2, v3, v4, v5])) (hgr : (W8.alloc (.cells #[v0, v1, v2, v3, v4, v5] 31)).grownBy V3 (Value.slice o j c).ownBlock) (hat : (Value.slice o' (j + 1) c').ownBlock = (Value.slice o j c).ownBlock ∨ (Value.slice o' (j + 1) c').ownBlock = some (W8.alloc (.cells #[v0, v1, v2, v3, v4, v5] 31)).heap.size) :
    Cb w V3 a0 a1 a2 a3 a4 (.slice o j c) ∧ Cb w (V3.setCell ⟨w.heap.size, 5, none⟩ (.slice o' (j + 1) c')) a0 a1 a2 a3 a4 (.slice o' (j + 1) c') ∧ Mid (w.heap.size + 2) W7.heap.size W7 (V3.setCell ⟨w.heap.size, 5, none⟩ (.slice o' (j + 1) c')) ∧ Ko d ks (V3.setCell ⟨w.heap.size, 5, none⟩ (.slice o' (j + 1) c')) W7.heap.size (j + 1) o' c' (vals ++ [v0, v1, v2, v3, v4, v5]) := by
  have hMs := M.size
  have s8 := b8.size
  have bx := box_below W8 (.cells #[v0, v1, v2, v3, v4, v5] 31)
  have hge : ∀ g, (Value.slice o j c).ownBlock = some g → W7.heap.size ≤ g := fun g e => (own_at6 K.own g e).1
  have BX := (B.below b8 (Nat.le_refl _)).below bx (Nat.le_refl _)
  have B3 : Cb w V3 a0 a1 a2 a3 a4 (.slice o j c) := by
    refine ⟨BX.bel.grown hgr BX.bel.size (fun q e => by have := hge q e; omega), (hgr.block _ (Array.getElem?_eq_some_iff.1 BX.rt).1 (fun e => ?_)).trans BX.rt, (hgr.block _ (Array.getElem?_eq_some_iff.1 BX.rr).1 (fun e => ?_)).trans BX.rr⟩
    · have := hge _ e.symm; omega
    · have := hge _ e.symm; omega
  have hs3 := hgr.size
  have hsx := bx.size
  have k4 : Kb (fun b => W7.heap.size ≤ b) V3 (V3.setCell ⟨w.heap.size, 5, none⟩ (.slice o' (j + 1) c')) := ⟨(set1 V3 w.heap.size 5 _).size, fun b hb _ => heap_setCell_other _ _ _ _ (by simp; omega)⟩
  refine ⟨B3, B3.set 5 _ _ _ _ _ _ _ rfl, ?_, K.step hMs hy b8 tq bx hsx hown hgr hat k4 (own_kb hown k4 fun g e => (own_at6 hown g e).1)⟩
  refine (M.trans ((Mid.below b8 (by omega)).trans ((Mid.below bx (by omega)).trans ⟨hgr.size, fun q h1 h2 => hgr.block q (by omega) (fun e => ?_)⟩))).trans (Mid.set _ _ _ _ (.inl (by omega)))
  have := hge _ e.symm; omega
theorem own_end {d : Nat} {ks : List (Tr d)} {k n : Int} {t : ByteArray} {sh at1 : List Int} {p1 p2 o : Option Addr} {sn pc1 an pc2 L c : Nat} {vals : List Value} {w W7 V U : World} (hL : ks.length = L) (F1 : Ft 3 W7 (w.heap.size + 2) p1 sn pc1 sh) (F2 : Ft 2 W7 (w.heap.size + 2) p2 an pc2 at1) (h12 : ∀ a a', p1 = some a → p2 = some a' → a.block ≠ a'.block)
    (hkb : -9223372036854775808 ≤ k ∧ k ≤ 9223372036854775807) (hnb : -9223372036854775808 ≤ n ∧ n ≤ 9223372036854775807) (ht : t.size ≤ 140737488355328) (hrm : L * 104 ≤ 140737488351232)
    (M : Mid (w.heap.size + 2) W7.heap.size W7 V) (K : Ko d ks V W7.heap.size L o c vals) (szw : w.heap.size + 1 < W7.heap.size) (gr : V.grownBy U (some (w.heap.size + 1))) :
    OwN d (Tr.mk ⟨k, t, n, sh, at1⟩ ks) w.heap.size U [.int .i64 k, .string t, .int .i64 n, .slice p1 sn pc1, .slice p2 an pc2, .slice o L c] := by
  have hsn := F1.rd.len
  have han := F2.rd.len
  subst hL hsn han
  have hMs := M.size
  have hUs := gr.size
  have ku : Kb (fun b => w.heap.size + 2 ≤ b ∧ b < W7.heap.size) W7 U := ⟨by omega, fun b hb hl => (gr.block b (by omega) (fun e => by injection e with e; omega)).trans (M.block b hb.1 hb.2)⟩
  have kv : Kb (fun b => W7.heap.size ≤ b) V U := ⟨by omega, fun b hb hl => gr.block b hl (fun e => by injection e with e; omega)⟩
  exact ⟨p1, pc1, p2, pc2, o, c, W7.heap.size, vals, rfl, (F1.kb ku (ft_lt F1)).mono (by omega), (F2.kb ku (ft_lt F2)).mono (by omega), fun a e => (ft_lt F1 a e).2, fun a e => (ft_lt F2 a e).2, h12, by omega, by omega, K.kept kv (own_kb K.own kv fun g e => (own_at6 K.own g e).1), hkb, hnb, ht, hrm⟩
end Go.Proofs.YtiahilelcppfgaaGreat
