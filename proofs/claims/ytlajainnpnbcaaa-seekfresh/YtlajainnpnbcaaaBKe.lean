
/- What a book takes. -/

import Derived.Test.YtlajainnpnbcaaaBKd

import Derived.Deep.CutBlock

import Derived.Deep.LoopGhost

namespace Go.Proofs.Ytlajainnpnbcaaa

open Go.RowKit

set_option linter.unusedVariables false

theorem step_push {t e : TypeId} (hund : Try.prog.underlying t = some (.slice e)) (hinfo : (Try.prog.info? e).map (fun i => (i.zero, i.size, i.bytes)) = some (some (.slice none 0 0), 1, 24)) {ops : Array Oper} {o : Oper} {a : Act} {w : World} {K : Act → World → Prop} {Q : Exit → Act → World → Prop} {E : Prop}
    (hg : o.guard = none) (s x : Operand) (hop : o.op = Op.call { callee := Callee.builtin Builtin.append, args := #[s, x], argTypes := #[t, t] })
    (v : Value) (n : Nat) (xs : List Value) (hs : a.eval s = v) (hown : w.ownsRow 0 e 1 v n xs) (g : Nat) (hx : a.eval x = .slice (some ⟨g, 0, none⟩) 1 1) (y : Value) (hc : w.cell? ⟨g, 0, none⟩ = some y) (hy : y.oneCell' = true) (hn : n ≤ 41944)
    (hK : ∀ v' w', w'.ownsRow 0 e 1 v' (n + 1) (xs ++ [y]) → w.grownBy w' v.ownBlock → (v'.ownBlock = v.ownBlock ∨ v'.ownBlock = some w.heap.size) → K (a.put o.dst v') w') :
    if Region.wanted o (yielded ops a.tmps) = true then Oper.wp Try.prog o a w K Q else E := by
  have hw : Region.wanted o (yielded ops a.tmps) = true := by simp [Region.wanted, hg]
  rw [if_pos hw]
  obtain ⟨i0, hi, hz0, hz1, hz2⟩ := info_parts hinfo
  obtain ⟨v', w', hrun, h1, h2, _, h4⟩ := run_append_own_at (P := Try.prog) w 0 t o.type e i0 (.slice none 0 0) 1 24 hund hi hz0 hz1 hz2 rfl (by decide) v n xs hown ⟨g, 0, none⟩ 1 1 [y] rfl
    (fun j u hj => by
      match j, hj with
      | 0, hj => simp at hj; subst hj; simpa [Addr.add] using hc) (fun u hu => by simp at hu; subst hu; exact hy) (by unfold maxLen; omega) (by omega) (Nat.zero_le _)
  unfold Oper.wp
  simp [execOp, hop, resolve, invoke, builtin, hs, hx, hrun, Result.andThen]
  exact hK _ _ h1 h2 h4
/-- A list full of a mark. -/
def Gr (W : World) (e : TypeId) (v : Value) (n : Nat) (c : Int) : Prop := ∃ l : List Int, W.ownsRow 0 e 1 v n (l.map (Value.int .i64)) ∧ l.length = n ∧ ∀ z ∈ l, z = c
theorem Gr.chg {W W' : World} {S : Nat → Prop} {e : TypeId} {v : Value} {n : Nat} {c : Int} (h : Gr W e v n c) (hc : Chg S W W') (hS : ∀ g, v.ownBlock = some g → ¬ S g) : Gr W' e v n c := by
  obtain ⟨l, h1, h2⟩ := h
  exact ⟨l, hc.own h1 hS, h2⟩
theorem Gr.lo {W : World} {e : TypeId} {xo : Option Addr} {k cap : Nat} {c : Int} (h : Gr W e (.slice xo k cap) k c) (hk : k < cap) : ∃ g, xo = some ⟨g, 0, none⟩ := by
  obtain ⟨l, h1, _⟩ := h
  rcases h1.2 with ⟨e1, _⟩ | ⟨g, cap', cur, e1, _⟩
  · injection e1 with _ _ e1; omega
  · injection e1 with e1; exact ⟨g, e1⟩
theorem Gr.push {t e : TypeId} (hund : Try.prog.underlying t = some (.slice e)) (hinfo : (Try.prog.info? e).map (fun i => (i.zero, i.size, i.bytes)) = some (some (.int .i64 0), 1, 8)) {ops : Array Oper} {rest : List Oper} {o : Oper} {a : Act} {Q : Exit → Act → World → Prop} {w : World} (hgd : o.guard = none) (s x : Operand)
    (ho : o.op = .call { callee := .builtin .append, args := #[s, x], argTypes := #[t, t] }) {g k cap : Nat} {c : Int} (h : Gr w e (.slice (some ⟨g, 0, none⟩) k cap) k c) (hs : a.eval s = .slice (some ⟨g, 0, none⟩) k cap) {n : Nat} (hx : a.eval x = .slice (some ⟨n, 0, none⟩) 1 1) (hc : w.cell? ⟨n, 0, none⟩ = some (.int .i64 c)) (hk : k < cap)
    (hK : ∀ w', Gr w' e (.slice (some ⟨g, 0, none⟩) (k + 1) cap) (k + 1) c → w.grownBy w' (some g) → wpList Try.prog ops Q rest (a.put o.dst (.slice (some ⟨g, 0, none⟩) (k + 1) cap)) w') : wpList Try.prog ops Q (o :: rest) a w := by
  obtain ⟨l, h1, h2, h3⟩ := h
  obtain ⟨i0, hi, hz0, hz1, hz2⟩ := info_parts hinfo
  refine wpList_append_own_spare w hgd s x t ho 0 e i0 1 hund hi hz1 g k cap _ hs h1 ⟨n, 0, none⟩ 1 1 [.int .i64 c] hx rfl ?_ ?_ (by omega) ?_
  · intro j u hj
    match j, hj with
    | 0, hj => simp at hj; subst hj; simpa [Addr.add] using hc
  · intro u hu; simp at hu; subst hu; rfl
  · intro w' h4 h5
    refine hK w' ⟨l ++ [c], by rw [List.map_append]; exact h4, by simp [h2], fun z hz => ?_⟩ h5
    rcases List.mem_append.1 hz with hz | hz
    · exact h3 z hz
    · simpa using hz
theorem own_lo0 {W : World} {e : TypeId} {n c : Nat} {lo : Option Addr} {xs : List Value} (h : W.ownsRow 0 e 1 (.slice lo n c) n xs) (hn : n ≠ 0) : ∃ g, lo = some ⟨g, 0, none⟩ := by
  rcases h.2 with ⟨_, h0⟩ | ⟨g, cap, cur, e, _⟩
  · exact absurd h0 hn
  · injection e with e1; exact ⟨g, e1⟩
/-- A box that is no list is as it was. -/
theorem box_kept {W V : World} {e t : TypeId} {v : Value} {n g : Nat} {xs : List Value} {cs : Array Value} (hc : Chg (fun k => v.ownBlock = some k) W V) (ho : W.ownsRow 0 e 1 v n xs) (h : W.heap[g]? = some (.cells cs t (0, 0))) (ht : t ≠ e) : V.heap[g]? = some (.cells cs t (0, 0)) :=
  hc.at h fun e' => by obtain ⟨cs', h'⟩ := ownB ho e'; exact ht (kindB h h')
theorem Fil.own {W : World} {e : TypeId} {v : Value} {n k : Nat} {c : Int} (h : Fil W e v n k c) : ∃ xs, W.ownsRow 0 e 1 v n xs := by
  obtain ⟨l, h1, _⟩ := h; exact ⟨_, h1⟩
theorem kept_other {W V : World} {e e' : TypeId} {v v' : Value} {n n' : Nat} {xs xs' : List Value} (hc : Chg (fun k => v.ownBlock = some k) W V) (ho : W.ownsRow 0 e 1 v n xs) (ho' : W.ownsRow 0 e' 1 v' n' xs') (hne : e' ≠ e) : ∀ g, v'.ownBlock = some g → ¬ (v.ownBlock = some g) := by
  intro g hg e1
  obtain ⟨cs, h1⟩ := ownB ho e1
  obtain ⟨cs', h2⟩ := ownB ho' hg
  exact hne (kindB h2 h1)

set_option maxRecDepth 20000 in
set_option maxHeartbeats 8000000 in
theorem take_yes (bb gl : Nat) (so ao xo yo : Option Addr) (m sc ac xn xc yn yc : Nat) (sz : Int) (vs us : List Value) (zx zy : List Int) (S T : Nat → Prop) (w : World) (h : Bk w S bb so ao m m sc ac sz vs us) (hz : ¬ 33554432 < sz)
    (hl : w.heap[gl]? = some (.cells #[.slice xo xn xc, .slice yo yn yc] 36 (0, 0))) (hx : w.ownsRow 0 3 1 (.slice xo xn xc) xn (zx.map (Value.int .i64))) (hxl : zx.length = xn) (hy : w.ownsRow 0 2 1 (.slice yo yn yc) yn (zy.map (Value.int .i64))) (hyl : zy.length = yn)
    (hxr : xn * 8 ≤ 140737488351232) (hyr : yn * 8 ≤ 140737488351232) (hxc : xc ≤ 9223372036854775807) (hyc : yc ≤ 9223372036854775807) (hxS : ∀ g, (Value.slice xo xn xc).ownBlock = some g → ¬ S g) (hyS : ∀ g, (Value.slice yo yn yc).ownBlock = some g → ¬ S g)
    (hST : ∀ g, S g → T g) (hNT : ∀ g, w.heap.size ≤ g → T g) (hxT : ∀ g, (Value.slice xo xn xc).ownBlock = some g → T g) (hyT : ∀ g, (Value.slice yo yn yc).ownBlock = some g → T g) :
    Calls Try.prog 9 #[.pointer (some ⟨bb, 0, none⟩), .slice (some ⟨gl, 0, none⟩) 1 1] w fun e w' => e = .returned (.tuple #[]) ∧ (∃ so' ao' m' sc' ac' sz' vs' us', Bk w' T bb so' ao' m' m' sc' ac' sz' vs' us') ∧ Chg T w w' := by
  have hz0 : 0 ≤ sz := by have := h.hm.1; omega
  have cR := room_yes bb (.slice so m sc) (.slice ao m ac) sz xo yo xn xc yn yc w h.box hz hz0 hxr hyr hxc hyc
  obtain ⟨⟨b0, b1, b2⟩, bf⟩ := box3 h.box
  obtain ⟨l0, l1, _, _⟩ := box2 hl
  have HRR : Hid (xn * 8 ≤ 140737488351232 ∧ yn * 8 ≤ 140737488351232) := ⟨hxr, hyr⟩
  have HB : Hid (Bk w S bb so ao m m sc ac sz vs us) := h
  have HX : Hid (Fil w 3 (.slice xo xn xc) xn 0 (mS m)) := Fil.start hx hxl _
  have HY : Hid (Fil w 2 (.slice yo yn yc) yn 0 (mA m)) := Fil.start hy hyl _
  have HL0 : Hid (w.heap[gl]? = some (.cells #[.slice xo xn xc, .slice yo yn yc] 36 (0, 0))) := hl
  have HZ : Hid (¬ 33554432 < sz ∧ 0 ≤ sz) := ⟨hz, hz0⟩
  have ws : IntKind.i64.wrap (1099511627776 + (m : Int)) = mS m := by have := h.hk.1; rw [IntKind.wrap_i64]; unfold mS; omega
  have wa : IntKind.i64.wrap (-2199023255552 - (m : Int)) = mA m := by have := h.hk.1; rw [IntKind.wrap_i64]; unfold mA; omega
  clear h hz hz0 hl hx hy hxr hyr hxc hyc
  go_enter Try.func9, Try.ntmps9
  go_wp2_with fail
  refine wp_loop_rounds 2 ?_
  rw [rounds_succ]
  go_upto_region 5 with (go_at_call 17; (with_reducible refine cR.mono ?_); rintro e W1 ⟨rfl, sz', z1, z2, B1, K1⟩)
  have L1 : W1.heap[gl]? = some (.cells #[.slice xo xn xc, .slice yo yn yc] 36 (0, 0)) := K1.at HL0.out fun e => by subst e; exact absurd (kindB HL0.out HB.out.box) (by decide)
  have FX1 := HX.out.chg K1 fun g hg e => by subst e; exact hxS g hg HB.out.fb
  have FY1 := HY.out.chg K1 fun g hg e => by subst e; exact hyS g hg HB.out.fb
  have hB1 : Bk W1 S bb so ao m m sc ac sz' vs us := by
    have h := HB.out
    have nb : ∀ {e : TypeId} {n : Nat} {v : Value} {ys : List Value}, w.ownsRow 0 e 1 v n ys → e ≠ 28 → ∀ g, v.ownBlock = some g → ¬ g = bb := by
      intro e n v ys ho hne g hg e1
      subst e1
      obtain ⟨cs, hc⟩ := ownB ho hg
      exact hne (kindB hc h.box)
    exact ⟨B1, h.vl, h.ul, K1.own h.shp (nb h.shp (by decide)), K1.own h.atm (nb h.atm (by decide)), h.rs.chg K1 fun i v g hi hv => by obtain ⟨l, ho, _⟩ := h.rs.own i v hi; exact nb ho (by decide) g hv, h.ra.chg K1 fun i v g hi hv => by obtain ⟨l, ho, _⟩ := h.ra.own i v hi; exact nb ho (by decide) g hv, h.fb, h.fs, h.fa, h.fv, h.fu, ⟨by have := h.hm.1; omega, by have := h.hm.2; omega⟩, h.hk, z2⟩
  have KT : Hid (Chg T w W1) := K1.mono fun g _ e => by subst e; exact hST g HB.out.fb
  have HM : Hid (((m + 1 : Nat) : Int) * 800 ≤ sz' ∧ m + 1 ≤ 41944) := by
    have h1 := HB.out.hm.1
    obtain ⟨h2, h3⟩ := HZ.out
    exact ⟨by omega, by omega⟩
  have HNT : Hid (∀ g, W1.heap.size ≤ g → T g) := fun g hg => hNT g (Nat.le_trans K1.size hg)
  have HB1 : Hid (Bk W1 S bb so ao m m sc ac sz' vs us) := hB1
  have HL : Hid (W1.heap[gl]? = some (.cells #[.slice xo xn xc, .slice yo yn yc] 36 (0, 0))) := L1
  obtain ⟨⟨d0, d1, d2⟩, df⟩ := box3 B1
  obtain ⟨l2, l3, _, _⟩ := box2 L1
  clear b0 b1 b2 bf l0 l1 cR z1 z2 B1 K1 L1 hB1
  go_upto_block 2 with fail
  go_cut [7] from 37 to 55 (fun s7 V => Fil V 3 (.slice xo xn xc) xn xn (mS m) ∧ Chg (fun g => (Value.slice xo xn xc).ownBlock = some g) W1 V)
  case first =>
    go_wp2_with fail
    go_loopg [7] xn (fun g s7 wr => ∃ k : Nat, k ≤ xn ∧ g = xn - k ∧ s7 = .int .i64 (k : Nat) ∧ Fil wr 3 (.slice xo xn xc) xn k (mS m) ∧ Chg (fun g => (Value.slice xo xn xc).ownBlock = some g) W1 wr)
    case atStart => exact ⟨0, Nat.zero_le _, rfl, rfl, FX1, Chg.refl _ _⟩
    case round =>
      obtain ⟨k, hk, rfl, rfl, hF, hC⟩ := hrel
      obtain ⟨xs0, o0⟩ := Fil.own FX1
      have L1 := box_kept hC o0 HL.out (by decide)
      obtain ⟨y0, y1, _, _⟩ := box2 L1
      by_cases hlt : k < xn
      · obtain ⟨g, rfl, ⟨x, c1⟩, f1⟩ := hF.lo hlt
        obtain ⟨hF1, hC1⟩ := hF.put hlt
        have hC2 := hC.trans (hC1.mono fun j _ e => show (Value.slice (some ⟨g, 0, none⟩) xn xc).ownBlock = some j by rw [e]; rfl)
        have t1 : decide ((k : Int) < (xn : Int)) = true := by simp [hlt]
        have t1' : (k : Int) < (xn : Int) := by omega
        have HR : Hid (xn * 8 ≤ 140737488351232) := HRR.out.1
        clear hF hC hC1 L1 o0
        go_wp2
        go_roundg (xn - (k + 1))
        case measure => omega
        case rel => exact ⟨k + 1, by omega, rfl, (by have := HR.out; first | go_num | (refine congrArg (Value.int .i64) ?_; unfold wrap64; omega)), hF1, hC2⟩
      · obtain rfl : k = xn := by omega
        have t1 : decide ((k : Int) < (k : Int)) = false := by simp
        clear hlt
        go_wp2
        go_meet
        case rel => exact ⟨hF, hC⟩
  case rest =>
  obtain ⟨W2, hW2⟩ : ∃ W, W = wc := ⟨_, rfl⟩
  subst hW2
  obtain ⟨FX2, KW2⟩ := hcut
  obtain ⟨xs0, o0⟩ := Fil.own FX1
  have L2 := box_kept KW2 o0 HL.out (by decide)
  have hB2 := HB1.out.chg KW2 fun g hg e => hxS g e hg
  obtain ⟨ys0, p0⟩ := Fil.own FY1
  have FY2 := FY1.chg KW2 (kept_other KW2 o0 p0 (by decide))
  have KT2 : Hid (Chg T w W2) := KT.out.trans (KW2.mono fun g _ e => hxT g e)
  have HNT2 : Hid (∀ g, W2.heap.size ≤ g → T g) := fun g hg => HNT.out g (Nat.le_trans KW2.size hg)
  have HL1 := HL
  clear HL
  have HL : Hid (W2.heap[gl]? = some (.cells #[.slice xo xn xc, .slice yo yn yc] 36 (0, 0))) := L2
  have HB2 : Hid (Bk W2 S bb so ao m m sc ac sz' vs us) := hB2
  clear d0 d1 d2 df l2 l3 FX1 FY1 o0 p0 KW2 hB2 L2 HL1
  go_upto_block 4 with fail
  go_cut [8] from 56 to 74 (fun s8 V => Fil V 2 (.slice yo yn yc) yn yn (mA m) ∧ Chg (fun g => (Value.slice yo yn yc).ownBlock = some g) W2 V)
  case first =>
    go_wp2_with fail
    go_loopg [8] yn (fun g s8 wr => ∃ k : Nat, k ≤ yn ∧ g = yn - k ∧ s8 = .int .i64 (k : Nat) ∧ Fil wr 2 (.slice yo yn yc) yn k (mA m) ∧ Chg (fun g => (Value.slice yo yn yc).ownBlock = some g) W2 wr)
    case atStart => exact ⟨0, Nat.zero_le _, rfl, rfl, FY2, Chg.refl _ _⟩
    case round =>
      obtain ⟨k, hk, rfl, rfl, hF, hC⟩ := hrel
      obtain ⟨xs0, o0⟩ := Fil.own FY2
      have L1 := box_kept hC o0 HL.out (by decide)
      obtain ⟨y0, y1, _, _⟩ := box2 L1
      by_cases hlt : k < yn
      · obtain ⟨g, rfl, ⟨x, c1⟩, f1⟩ := hF.lo hlt
        obtain ⟨hF1, hC1⟩ := hF.put hlt
        have hC2 := hC.trans (hC1.mono fun j _ e => show (Value.slice (some ⟨g, 0, none⟩) yn yc).ownBlock = some j by rw [e]; rfl)
        have t1 : decide ((k : Int) < (yn : Int)) = true := by simp [hlt]
        have t1' : (k : Int) < (yn : Int) := by omega
        have HR : Hid (yn * 8 ≤ 140737488351232) := HRR.out.2
        clear hF hC hC1 L1 o0
        go_wp2
        go_roundg (yn - (k + 1))
        case measure => omega
        case rel => exact ⟨k + 1, by omega, rfl, (by have := HR.out; first | go_num | (refine congrArg (Value.int .i64) ?_; unfold wrap64; omega)), hF1, hC2⟩
      · obtain rfl : k = yn := by omega
        have t1 : decide ((k : Int) < (k : Int)) = false := by simp
        clear hlt
        go_wp2
        go_meet
        case rel => exact ⟨hF, hC⟩
  case rest =>
  obtain ⟨W3, hW3⟩ : ∃ W, W = wc := ⟨_, rfl⟩
  subst hW3
  obtain ⟨FY3, KW3⟩ := hcut
  obtain ⟨ys0, p0⟩ := Fil.own FY2
  have L3 := box_kept KW3 p0 HL.out (by decide)
  have hB3 := HB2.out.chg KW3 fun g hg e => hyS g e hg
  obtain ⟨xs0, o0⟩ := Fil.own FX2
  have FX3 := FX2.chg KW3 (kept_other KW3 p0 o0 (by decide))
  have KT3 : Hid (Chg T w W3) := KT2.out.trans (KW3.mono fun g _ e => hyT g e)
  have HNT3 : Hid (∀ g, W3.heap.size ≤ g → T g) := fun g hg => HNT2.out g (Nat.le_trans KW3.size hg)
  clear FX2 FY2 o0 p0 KW3 HL
  have HB3 : Hid (Bk W3 S bb so ao m m sc ac sz' vs us) := hB3
  have HL : Hid (W3.heap[gl]? = some (.cells #[.slice xo xn xc, .slice yo yn yc] 36 (0, 0))) := L3
  obtain ⟨⟨d0, d1, d2⟩, df⟩ := box3 hB3.box
  obtain ⟨l2, l3, _, _⟩ := box2 L3
  obtain ⟨lx, ox, hlx, hmx⟩ := FX3.done
  obtain ⟨ly, oy, hly, hmy⟩ := FY3.done
  have bA : Below W3.heap.size W3 (W3.alloc (.cells #[.slice xo xn xc] 33)).drew := (box_below W3 _).drew
  have nA := allocNew W3 (.cells #[.slice xo xn xc] 33)
  have HS : W3.drew.cell? ⟨bb, 0, none⟩ = some (.slice so m sc) ∧ W3.drew.cell? ⟨gl, 0, none⟩ = some (.slice xo xn xc) := ⟨d0, l2⟩
  have hBA := hB3.below bA
  have HSA : (W3.alloc (.cells #[.slice xo xn xc] 33)).drew.cell? ⟨bb, 0, none⟩ = some (.slice so m sc) ∧ (W3.alloc (.cells #[.slice xo xn xc] 33)).drew.cell? ⟨gl, 0, none⟩ = some (.slice xo xn xc) := ⟨(box3 hBA.box).1.1, (box2 ((bA.block gl (Array.getElem?_eq_some_iff.1 L3).1).trans L3)).1⟩
  have cA : (W3.alloc (.cells #[.slice xo xn xc] 33)).drew.cell? ⟨W3.heap.size, 0, none⟩ = some (.slice xo xn xc) := (cell_of_row _ _ 0 _ 33 (0, 0) nA).trans rfl
  have LA : (W3.alloc (.cells #[.slice xo xn xc] 33)).drew.heap[gl]? = some (.cells #[.slice xo xn xc, .slice yo yn yc] 36 (0, 0)) := (bA.block gl (Array.getElem?_eq_some_iff.1 L3).1).trans L3
  clear hB3 L3 FX3 d1 d2 df
  go_upto_region 14 with fail
  refine wp_region_R (fun V => V.cell? ⟨bb, 0, none⟩ = some (.slice so m sc) ∧ V.cell? ⟨gl, 0, none⟩ = some (.slice xo xn xc)) (fun i => i != 14) (by kernel_rfl) ?_
  refine wpAnyR_take (i := 0) (v := .pointer (some ⟨bb, 0, none⟩)) rfl (by kernel_rfl) (by kernel_rfl) (by kernel_rfl) (by kernel_rfl) (fun _ _ _ h => h) (Or.inl ⟨by rfl, fun V hV => ?_⟩) ?_ ?_
  · obtain ⟨g0, g1⟩ := hV
    go_simp
  · exact HS
  conv => arg 9; simp [Act.put]
  refine wpAnyR_take (i := 1) (v := .pointer (some ⟨bb, 0, none⟩)) rfl (by kernel_rfl) (by kernel_rfl) (by kernel_rfl) (by kernel_rfl) (fun _ _ _ h => h) (Or.inl ⟨by rfl, fun V hV => ?_⟩) ?_ ?_
  · obtain ⟨g0, g1⟩ := hV
    go_simp
  · exact HS
  conv => arg 9; simp [Act.put]
  refine wpAnyR_take (i := 2) (v := .pointer (some ⟨bb, 0, none⟩)) rfl (by kernel_rfl) (by kernel_rfl) (by kernel_rfl) (by kernel_rfl) (fun _ _ _ h => h) (Or.inl ⟨by rfl, fun V hV => ?_⟩) ?_ ?_
  · obtain ⟨g0, g1⟩ := hV
    go_simp
  · exact HS
  conv => arg 9; simp [Act.put]
  refine wpAnyR_take (i := 3) (v := .pointer (some ⟨bb, 0, none⟩)) rfl (by kernel_rfl) (by kernel_rfl) (by kernel_rfl) (by kernel_rfl) (fun _ _ _ h => h) (Or.inl ⟨by rfl, fun V hV => ?_⟩) ?_ ?_
  · obtain ⟨g0, g1⟩ := hV
    go_simp
  · exact HS
  conv => arg 9; simp [Act.put]
  refine wpAnyR_take (i := 4) (v := .slice so m sc) rfl (by kernel_rfl) (by kernel_rfl) (by kernel_rfl) (by kernel_rfl) (fun _ _ _ h => h) (Or.inl ⟨by rfl, fun V hV => ?_⟩) ?_ ?_
  · obtain ⟨g0, g1⟩ := hV
    go_simp
  · exact HS
  conv => arg 9; simp [Act.put]
  refine wpAnyR_take (i := 5) (v := .slice (some ⟨gl, 0, none⟩) 1 1) rfl (by kernel_rfl) (by kernel_rfl) (by kernel_rfl) (by kernel_rfl) (fun _ _ _ h => h) (Or.inl ⟨by rfl, fun V hV => ?_⟩) ?_ ?_
  · obtain ⟨g0, g1⟩ := hV
    go_simp
  · exact HS
  conv => arg 9; simp [Act.put]
  refine wpAnyR_take (i := 6) (v := .int .i64 0) rfl (by kernel_rfl) (by kernel_rfl) (by kernel_rfl) (by kernel_rfl) (fun _ _ _ h => h) (Or.inl ⟨by rfl, fun V hV => ?_⟩) ?_ ?_
  · obtain ⟨g0, g1⟩ := hV
    go_simp
  · exact HS
  conv => arg 9; simp [Act.put]
  refine wpAnyR_take (i := 7) (v := .pointer (some ⟨gl, 0, none⟩)) rfl (by kernel_rfl) (by kernel_rfl) (by kernel_rfl) (by kernel_rfl) (fun _ _ _ h => h) (Or.inl ⟨by rfl, fun V hV => ?_⟩) ?_ ?_
  · obtain ⟨g0, g1⟩ := hV
    go_simp
  · exact HS
  conv => arg 9; simp [Act.put]
  refine wpAnyR_take (i := 8) (v := .pointer (some ⟨gl, 0, none⟩)) rfl (by kernel_rfl) (by kernel_rfl) (by kernel_rfl) (by kernel_rfl) (fun _ _ _ h => h) (Or.inl ⟨by rfl, fun V hV => ?_⟩) ?_ ?_
  · obtain ⟨g0, g1⟩ := hV
    go_simp
  · exact HS
  conv => arg 9; simp [Act.put]
  refine wpAnyR_take (i := 9) (v := .slice xo xn xc) rfl (by kernel_rfl) (by kernel_rfl) (by kernel_rfl) (by kernel_rfl) (fun _ _ _ h => h) (Or.inl ⟨by rfl, fun V hV => ?_⟩) ?_ ?_
  · obtain ⟨g0, g1⟩ := hV
    go_simp
  · exact HS
  conv => arg 9; simp [Act.put]
  refine wpAnyR_one (i := 10) (by kernel_rfl) rfl (fun K hK => ?_)
  go_simp
  refine hK _ _ ⟨fun _ => HSA, ?_⟩
  clear hK
  conv => arg 9; simp [Act.put]
  refine wpAnyR_one (i := 11) (by kernel_rfl) rfl (fun K hK => ?_)
  refine step_push Try.underlying25 (by kernel_rfl) rfl (.tmp 79) (.tmp 85) rfl (.slice so m sc) m vs (by simp [Act.eval]) hBA.shp W3.heap.size (by simp [Act.eval]) (.slice xo xn xc) cA rfl (by have := HM.out.2; omega) ?_
  intro v9 W9 r9 g9 a9
  obtain ⟨so', sc', rfl, hB4, K4⟩ := Bk.pushS (S' := fun g => S g ∨ W3.heap.size ≤ g ∨ (Value.slice xo xn xc).ownBlock = some g) HB3.out ox hmx hxS bA r9 g9 a9 HM.out.1 HM.out.2 (fun g hg => .inl hg) (fun g hg => .inr (.inl hg)) (fun g hg => .inr (.inr hg))
  have B9 : W9.heap[bb]? = some (.cells #[.slice so m sc, .slice ao m ac, .int .i64 sz'] 28 (0, 0)) := (Chg.of_grown g9).at hBA.box fun e => by obtain ⟨cs, hc⟩ := ownB hBA.shp e; exact absurd (kindB hBA.box hc) (by decide)
  have L9 : W9.heap[gl]? = some (.cells #[.slice xo xn xc, .slice yo yn yc] 36 (0, 0)) := (Chg.of_grown g9).at LA fun e => by obtain ⟨cs, hc⟩ := ownB hBA.shp e; exact absurd (kindB LA hc) (by decide)
  have HS9 : W9.cell? ⟨bb, 0, none⟩ = some (.slice so m sc) ∧ W9.cell? ⟨gl, 0, none⟩ = some (.slice xo xn xc) := ⟨(box3 B9).1.1, (box2 L9).1⟩
  have F9 := (box3 B9).2 0
  refine hK _ _ ⟨fun _ => HS9, ?_⟩
  clear hK
  conv => arg 9; simp [Act.put]
  refine wpAnyR_one (i := 12) (by kernel_rfl) rfl (fun K hK => ?_)
  go_simp
  refine hK _ _ ⟨fun _ => HS9, ?_⟩
  clear hK
  conv => arg 9; simp [Act.put]
  refine wpAnyR_one (i := 13) (by kernel_rfl) rfl (fun K hK => ?_)
  go_simp
  refine hK _ _ ⟨fun _ => HS9, ?_⟩
  clear hK
  conv => arg 9; simp [Act.put]
  refine wpAnyR_one (i := 14) (by kernel_rfl) rfl (fun K hK => ?_)
  go_simp
  refine hK _ _ ⟨fun h => absurd h (by decide), ?_⟩
  clear hK
  refine wpAnyR_done (by kernel_rfl) ?_ _
  have hyT1 : ∀ g, (Value.slice yo yn yc).ownBlock = some g → ¬ (S g ∨ W3.heap.size ≤ g ∨ (Value.slice xo xn xc).ownBlock = some g) := by
    intro g hg hh
    rcases hh with hh | hh | hh
    · exact hyS g hg hh
    · have := (oy.lt g hg).2; omega
    · obtain ⟨cs, h1⟩ := ownB ox hh; obtain ⟨cs', h2⟩ := ownB oy hg; exact absurd (kindB h1 h2) (by decide)
  have oy4 := K4.own oy hyT1
  have L4 : (W9.setCell ⟨bb, 0, none⟩ (.slice so' (m + 1) sc')).heap[gl]? = some (.cells #[.slice xo xn xc, .slice yo yn yc] 36 (0, 0)) := (Chg.of_grown (set1 W9 bb 0 (.slice so' (m + 1) sc'))).at L9 fun e => by injection e with e; subst e; exact absurd (kindB B9 L9) (by decide)
  have KT4 : Hid (Chg T w (W9.setCell ⟨bb, 0, none⟩ (.slice so' (m + 1) sc'))) := KT3.out.trans (K4.mono fun g _ hg => by rcases hg with hg | hg | hg <;> first | exact hST g hg | exact HNT3.out g hg | exact hxT g hg)
  have HNT4 : Hid (∀ g, (W9.setCell ⟨bb, 0, none⟩ (.slice so' (m + 1) sc')).heap.size ≤ g → T g) := fun g hg => HNT3.out g (Nat.le_trans K4.size hg)
  have HT1 : Hid (∀ g, (S g ∨ W3.heap.size ≤ g ∨ (Value.slice xo xn xc).ownBlock = some g) → T g) := fun g hg => by rcases hg with hg | hg | hg <;> first | exact hST g hg | exact HNT3.out g hg | exact hxT g hg
  obtain ⟨T1, hT1⟩ : ∃ T1 : Nat → Prop, T1 = fun g => S g ∨ W3.heap.size ≤ g ∨ (Value.slice xo xn xc).ownBlock = some g := ⟨_, rfl⟩
  have HB4 : Hid (Bk (W9.setCell ⟨bb, 0, none⟩ (.slice so' (m + 1) sc')) T1 bb so' ao (m + 1) m sc' ac sz' (vs ++ [.slice xo xn xc]) us) := by rw [hT1]; exact hB4
  have HT1' : Hid (∀ g, T1 g → T g) := by rw [hT1]; exact HT1.out
  have HY1 : Hid (∀ g, (Value.slice yo yn yc).ownBlock = some g → ¬ T1 g) := by rw [hT1]; exact hyT1
  clear hT1 hB4 K4 hyT1 HT1 HS HSA HS9 F9 cA LA hBA nA bA g9 a9 r9 B9 L9 HB3 HL KT3 HNT3 d0 l2 l3
  generalize W9.setCell ⟨bb, 0, none⟩ (.slice so' (m + 1) sc') = W4 at *
  obtain ⟨⟨e0, e1, e2⟩, ef⟩ := box3 HB4.out.box
  obtain ⟨l2, l3, _, _⟩ := box2 L4
  have bA : Below W4.heap.size W4 (W4.alloc (.cells #[.slice yo yn yc] 34)).drew := (box_below W4 _).drew
  have nA := allocNew W4 (.cells #[.slice yo yn yc] 34)
  have HS : W4.drew.cell? ⟨bb, 1, none⟩ = some (.slice ao m ac) ∧ W4.drew.cell? ⟨gl, 1, none⟩ = some (.slice yo yn yc) := ⟨e1, l3⟩
  have hBA := HB4.out.below bA
  have LA : (W4.alloc (.cells #[.slice yo yn yc] 34)).drew.heap[gl]? = some (.cells #[.slice xo xn xc, .slice yo yn yc] 36 (0, 0)) := (bA.block gl (Array.getElem?_eq_some_iff.1 L4).1).trans L4
  have HSA : (W4.alloc (.cells #[.slice yo yn yc] 34)).drew.cell? ⟨bb, 1, none⟩ = some (.slice ao m ac) ∧ (W4.alloc (.cells #[.slice yo yn yc] 34)).drew.cell? ⟨gl, 1, none⟩ = some (.slice yo yn yc) := ⟨(box3 hBA.box).1.2.1, (box2 LA).2.1⟩
  have cA : (W4.alloc (.cells #[.slice yo yn yc] 34)).drew.cell? ⟨W4.heap.size, 0, none⟩ = some (.slice yo yn yc) := (cell_of_row _ _ 0 _ 34 (0, 0) nA).trans rfl
  clear e0 e2 ef
  go_upto_region 15 with fail
  refine wp_region_R (fun V => V.cell? ⟨bb, 1, none⟩ = some (.slice ao m ac) ∧ V.cell? ⟨gl, 1, none⟩ = some (.slice yo yn yc)) (fun i => i != 14) (by kernel_rfl) ?_
  refine wpAnyR_take (i := 0) (v := .pointer (some ⟨bb, 0, none⟩)) rfl (by kernel_rfl) (by kernel_rfl) (by kernel_rfl) (by kernel_rfl) (fun _ _ _ h => h) (Or.inl ⟨by rfl, fun V hV => ?_⟩) ?_ ?_
  · obtain ⟨g0, g1⟩ := hV
    go_simp
  · exact HS
  conv => arg 9; simp [Act.put]
  refine wpAnyR_take (i := 1) (v := .pointer (some ⟨bb, 0, none⟩)) rfl (by kernel_rfl) (by kernel_rfl) (by kernel_rfl) (by kernel_rfl) (fun _ _ _ h => h) (Or.inl ⟨by rfl, fun V hV => ?_⟩) ?_ ?_
  · obtain ⟨g0, g1⟩ := hV
    go_simp
  · exact HS
  conv => arg 9; simp [Act.put]
  refine wpAnyR_take (i := 2) (v := .pointer (some ⟨bb, 0, none⟩)) rfl (by kernel_rfl) (by kernel_rfl) (by kernel_rfl) (by kernel_rfl) (fun _ _ _ h => h) (Or.inl ⟨by rfl, fun V hV => ?_⟩) ?_ ?_
  · obtain ⟨g0, g1⟩ := hV
    go_simp
  · exact HS
  conv => arg 9; simp [Act.put]
  refine wpAnyR_take (i := 3) (v := .pointer (some ⟨bb, 1, none⟩)) rfl (by kernel_rfl) (by kernel_rfl) (by kernel_rfl) (by kernel_rfl) (fun _ _ _ h => h) (Or.inl ⟨by rfl, fun V hV => ?_⟩) ?_ ?_
  · obtain ⟨g0, g1⟩ := hV
    go_simp
  · exact HS
  conv => arg 9; simp [Act.put]
  refine wpAnyR_take (i := 4) (v := .slice ao m ac) rfl (by kernel_rfl) (by kernel_rfl) (by kernel_rfl) (by kernel_rfl) (fun _ _ _ h => h) (Or.inl ⟨by rfl, fun V hV => ?_⟩) ?_ ?_
  · obtain ⟨g0, g1⟩ := hV
    go_simp
  · exact HS
  conv => arg 9; simp [Act.put]
  refine wpAnyR_take (i := 5) (v := .slice (some ⟨gl, 0, none⟩) 1 1) rfl (by kernel_rfl) (by kernel_rfl) (by kernel_rfl) (by kernel_rfl) (fun _ _ _ h => h) (Or.inl ⟨by rfl, fun V hV => ?_⟩) ?_ ?_
  · obtain ⟨g0, g1⟩ := hV
    go_simp
  · exact HS
  conv => arg 9; simp [Act.put]
  refine wpAnyR_take (i := 6) (v := .int .i64 0) rfl (by kernel_rfl) (by kernel_rfl) (by kernel_rfl) (by kernel_rfl) (fun _ _ _ h => h) (Or.inl ⟨by rfl, fun V hV => ?_⟩) ?_ ?_
  · obtain ⟨g0, g1⟩ := hV
    go_simp
  · exact HS
  conv => arg 9; simp [Act.put]
  refine wpAnyR_take (i := 7) (v := .pointer (some ⟨gl, 0, none⟩)) rfl (by kernel_rfl) (by kernel_rfl) (by kernel_rfl) (by kernel_rfl) (fun _ _ _ h => h) (Or.inl ⟨by rfl, fun V hV => ?_⟩) ?_ ?_
  · obtain ⟨g0, g1⟩ := hV
    go_simp
  · exact HS
  conv => arg 9; simp [Act.put]
  refine wpAnyR_take (i := 8) (v := .pointer (some ⟨gl, 1, none⟩)) rfl (by kernel_rfl) (by kernel_rfl) (by kernel_rfl) (by kernel_rfl) (fun _ _ _ h => h) (Or.inl ⟨by rfl, fun V hV => ?_⟩) ?_ ?_
  · obtain ⟨g0, g1⟩ := hV
    go_simp
  · exact HS
  conv => arg 9; simp [Act.put]
  refine wpAnyR_take (i := 9) (v := .slice yo yn yc) rfl (by kernel_rfl) (by kernel_rfl) (by kernel_rfl) (by kernel_rfl) (fun _ _ _ h => h) (Or.inl ⟨by rfl, fun V hV => ?_⟩) ?_ ?_
  · obtain ⟨g0, g1⟩ := hV
    go_simp
  · exact HS
  conv => arg 9; simp [Act.put]
  refine wpAnyR_one (i := 10) (by kernel_rfl) rfl (fun K hK => ?_)
  go_simp
  refine hK _ _ ⟨fun _ => HSA, ?_⟩
  clear hK
  conv => arg 9; simp [Act.put]
  refine wpAnyR_one (i := 11) (by kernel_rfl) rfl (fun K hK => ?_)
  refine step_push Try.underlying26 (by kernel_rfl) rfl (.tmp 93) (.tmp 99) rfl (.slice ao m ac) m us (by simp [Act.eval]) hBA.atm W4.heap.size (by simp [Act.eval]) (.slice yo yn yc) cA rfl (by have := HM.out.2; omega) ?_
  intro v9 W9 r9 g9 a9
  obtain ⟨ao', ac', rfl, hB5, K5⟩ := Bk.pushA (S' := T) HB4.out oy4 hmy HY1.out bA r9 g9 a9 HM.out.1 HM.out.2 HT1'.out HNT4.out hyT
  have B9 : W9.heap[bb]? = some (.cells #[.slice so' (m + 1) sc', .slice ao m ac, .int .i64 sz'] 28 (0, 0)) := (Chg.of_grown g9).at hBA.box fun e => by obtain ⟨cs, hc⟩ := ownB hBA.atm e; exact absurd (kindB hBA.box hc) (by decide)
  have L9 : W9.heap[gl]? = some (.cells #[.slice xo xn xc, .slice yo yn yc] 36 (0, 0)) := (Chg.of_grown g9).at LA fun e => by obtain ⟨cs, hc⟩ := ownB hBA.atm e; exact absurd (kindB LA hc) (by decide)
  have HS9 : W9.cell? ⟨bb, 1, none⟩ = some (.slice ao m ac) ∧ W9.cell? ⟨gl, 1, none⟩ = some (.slice yo yn yc) := ⟨(box3 B9).1.2.1, (box2 L9).2.1⟩
  have F9 := (box3 B9).2 1
  refine hK _ _ ⟨fun _ => HS9, ?_⟩
  clear hK
  conv => arg 9; simp [Act.put]
  refine wpAnyR_one (i := 12) (by kernel_rfl) rfl (fun K hK => ?_)
  go_simp
  refine hK _ _ ⟨fun _ => HS9, ?_⟩
  clear hK
  conv => arg 9; simp [Act.put]
  refine wpAnyR_one (i := 13) (by kernel_rfl) rfl (fun K hK => ?_)
  go_simp
  refine hK _ _ ⟨fun _ => HS9, ?_⟩
  clear hK
  conv => arg 9; simp [Act.put]
  refine wpAnyR_one (i := 14) (by kernel_rfl) rfl (fun K hK => ?_)
  go_simp
  refine hK _ _ ⟨fun h => absurd h (by decide), ?_⟩
  clear hK
  refine wpAnyR_done (by kernel_rfl) ?_ _
  have HB5 : Hid (Bk (W9.setCell ⟨bb, 1, none⟩ (.slice ao' (m + 1) ac')) T bb so' ao' (m + 1) (m + 1) sc' ac' sz' (vs ++ [.slice xo xn xc]) (us ++ [.slice yo yn yc])) := hB5
  have KT5 : Hid (Chg T w (W9.setCell ⟨bb, 1, none⟩ (.slice ao' (m + 1) ac'))) := KT4.out.trans K5
  clear hB5 K5 HS HSA HS9 F9 cA LA hBA nA bA g9 a9 r9 B9 L9 HB4 KT4 HNT4 e1 l2 l3 L4 oy4 ox oy HT1' HY1
  generalize W9.setCell ⟨bb, 1, none⟩ (.slice ao' (m + 1) ac') = W5 at *
  obtain ⟨⟨e0, e1, e2⟩, ef⟩ := box3 HB5.out.box
  go_wp2_with fail
  rw [rounds_succ]
  go_wp2_with fail
  obtain ⟨gs, hgs⟩ := own_lo0 HB5.out.shp (Nat.succ_ne_zero m)
  obtain ⟨ga, hga⟩ := own_lo0 HB5.out.atm (Nat.succ_ne_zero m)
  subst hgs hga
  have vl : vs.length = m := by have := HB5.out.vl; simpa using this
  have ul : us.length = m := by have := HB5.out.ul; simpa using this
  have hxv : (vs ++ [Value.slice xo xn xc])[m]? = some (.slice xo xn xc) := by rw [← vl]; simp
  have hyv : (us ++ [Value.slice yo yn yc])[m]? = some (.slice yo yn yc) := by rw [← ul]; simp
  have c1 : W5.cell? ⟨gs, m, none⟩ = some (.slice xo xn xc) := (HB5.out.shp.cellAt m (by omega)).trans hxv
  have c2 : W5.cell? ⟨ga, m, none⟩ = some (.slice yo yn yc) := (HB5.out.atm.cellAt m (by omega)).trans hyv
  obtain ⟨lx', ox', hmx'⟩ := HB5.out.rs.own m _ hxv
  obtain ⟨ly', oy', hmy'⟩ := HB5.out.ra.own m _ hyv
  have GX5 : Gr W5 3 (.slice xo xn xc) xn (mS m) := by
    have e : lx'.length = xn := by obtain ⟨a, c, e⟩ := own_len ox'; injection e with _ e; exact e.symm
    exact ⟨lx', by rw [← e]; rw [e]; rw [e] at ox'; exact ox', e, hmx'⟩
  have GY5 : Gr W5 2 (.slice yo yn yc) yn (mA m) := by
    have e : ly'.length = yn := by obtain ⟨a, c, e⟩ := own_len oy'; injection e with _ e; exact e.symm
    exact ⟨ly', by rw [e] at oy'; exact oy', e, hmy'⟩
  have t1 : decide ((m : Int) < ((m + 1 : Nat) : Int)) = true := by simp; omega
  have t1' : (m : Int) < ((m + 1 : Nat) : Int) := by omega
  have t2' : (m : Int) < (m : Int) + 1 := by omega
  clear ox' oy' hmx' hmy' hxv hyv
  refine wp_loop_rounds 2 ?_
  rw [rounds_succ]
  go_upto_region 19 with fail
  go_cut [10, 11] from 113 to 126 (fun s10 s11 V => s10 = .slice xo xn xc ∧ s11 = .slice yo yn yc ∧ Below W5.heap.size W5 V)
  case first =>
    go_quiet (fail)
    go_wp2
    go_meet
    case rel => exact ⟨rfl, rfl, ⟨rfl, rfl, rfl, Nat.le_refl _, fun _ _ => rfl⟩⟩
  case rest =>
  obtain ⟨W6, hW6⟩ : ∃ W, W = wc := ⟨_, rfl⟩
  subst hW6
  obtain ⟨rfl, rfl, b6⟩ := hcut
  have K6 := Chg.of_below b6 (Nat.le_refl _) (fun _ => False)
  have GX6 := GX5.chg K6 fun _ _ e => e
  have GY6 := GY5.chg K6 fun _ _ e => e
  have cF1 := fun V => far_any xn xc V (by have := HRR.out.1; omega)
  have cF2 := fun V => far_any yn yc V (by have := HRR.out.2; omega)
  clear c1 c2 e0 e1 e2 ef GX5 GY5
  go_upto_block 8 with (first
    | (go_at_call 18; (with_reducible refine (cF1 _).mono ?_); rintro e V1 ⟨rfl, hV1⟩; rw [hV1]; clear hV1)
    | (go_at_call 18; (with_reducible refine (cF2 _).mono ?_); rintro e V1 ⟨rfl, hV1⟩; rw [hV1]; clear hV1))
  go_cut [10] from 137 to 145 (fun s10 V => ∃ k, s10 = .slice xo k xc ∧ Gr V 3 (.slice xo k xc) k (mS m) ∧ Chg (fun g => (Value.slice xo xn xc).ownBlock = some g) W6 V)
  case first =>
    go_wp2_with fail
    go_loopg [10] (fr xn xc - xn) (fun g s10 wr => ∃ k : Nat, g = fr xn xc - k ∧ s10 = .slice xo k xc ∧ Gr wr 3 (.slice xo k xc) k (mS m) ∧ Chg (fun g => (Value.slice xo xn xc).ownBlock = some g) W6 wr)
    case atStart => exact ⟨xn, rfl, rfl, GX6, Chg.refl _ _⟩
    case round =>
      obtain ⟨k, rfl, rfl, hG, hC⟩ := hrel
      by_cases hlt : k < fr xn xc
      · have hkc : k < xc := Nat.lt_of_lt_of_le hlt (fr_cap _ _)
        obtain ⟨g, hg⟩ := hG.lo hkc
        subst hg
        have bA := box_below wr (.cells #[.int .i64 (mS m)] 3)
        have nA := allocNew wr (.cells #[.int .i64 (mS m)] 3)
        have GA := hG.chg (Chg.of_below bA (Nat.le_refl _) (fun _ => False)) fun _ _ e => e
        have cA : (wr.alloc (.cells #[.int .i64 (mS m)] 3)).cell? ⟨wr.heap.size, 0, none⟩ = some (.int .i64 (mS m)) := (cell_of_row _ _ 0 _ 3 (0, 0) nA).trans rfl
        have hCA := hC.trans (Chg.of_below bA (Nat.le_refl _) _)
        have t1 : decide ((k : Int) < (fr xn xc : Int)) = true := by simp [hlt]
        have t2 : decide (k < fr xn xc) = true := by simp [hlt]
        have HLT : Hid (k < fr xn xc) := hlt
        clear hG hC
        go_wp2_with (at_builtin; refine Gr.push (t := 33) Try.underlying33 (by kernel_rfl) rfl _ _ rfl GA rfl rfl cA hkc ?_; intro w9 G9 g9)
        go_roundg (fr xn xc - (k + 1))
        case measure => have := HLT.out; omega
        case rel => exact ⟨k + 1, rfl, rfl, G9, hCA.trans ((Chg.of_grown g9).mono fun j _ e => e)⟩
      · have t1 : decide ((k : Int) < (fr xn xc : Int)) = false := by simp; omega
        have t2 : decide (k < fr xn xc) = false := by simp; omega
        go_wp2
        go_meet
        case rel => exact ⟨k, rfl, hG, hC⟩
  case rest =>
  obtain ⟨W7, hW7⟩ : ∃ W, W = wc := ⟨_, rfl⟩
  subst hW7
  obtain ⟨kW7, rfl, GX7, KW7⟩ := hcut
  have GY7 := GY6.chg KW7 (by obtain ⟨_, o1, _⟩ := GX6; obtain ⟨_, o2, _⟩ := GY6; exact kept_other KW7 o1 o2 (by decide))
  go_upto_block 10 with fail
  go_cut [11] from 146 to 154 (fun s11 V => ∃ k, s11 = .slice yo k yc ∧ Gr V 2 (.slice yo k yc) k (mA m) ∧ Chg (fun g => (Value.slice yo yn yc).ownBlock = some g) W7 V)
  case first =>
    go_wp2_with fail
    go_loopg [11] (fr yn yc - yn) (fun g s11 wr => ∃ k : Nat, g = fr yn yc - k ∧ s11 = .slice yo k yc ∧ Gr wr 2 (.slice yo k yc) k (mA m) ∧ Chg (fun g => (Value.slice yo yn yc).ownBlock = some g) W7 wr)
    case atStart => exact ⟨yn, rfl, rfl, GY7, Chg.refl _ _⟩
    case round =>
      obtain ⟨k, rfl, rfl, hG, hC⟩ := hrel
      by_cases hlt : k < fr yn yc
      · have hkc : k < yc := Nat.lt_of_lt_of_le hlt (fr_cap _ _)
        obtain ⟨g, hg⟩ := hG.lo hkc
        subst hg
        have bA := box_below wr (.cells #[.int .i64 (mA m)] 2)
        have nA := allocNew wr (.cells #[.int .i64 (mA m)] 2)
        have GA := hG.chg (Chg.of_below bA (Nat.le_refl _) (fun _ => False)) fun _ _ e => e
        have cA : (wr.alloc (.cells #[.int .i64 (mA m)] 2)).cell? ⟨wr.heap.size, 0, none⟩ = some (.int .i64 (mA m)) := (cell_of_row _ _ 0 _ 2 (0, 0) nA).trans rfl
        have hCA := hC.trans (Chg.of_below bA (Nat.le_refl _) _)
        have t1 : decide ((k : Int) < (fr yn yc : Int)) = true := by simp [hlt]
        have t2 : decide (k < fr yn yc) = true := by simp [hlt]
        have HLT : Hid (k < fr yn yc) := hlt
        clear hG hC
        go_wp2_with (at_builtin; refine Gr.push (t := 34) Try.underlying34 (by kernel_rfl) rfl _ _ rfl GA rfl rfl cA hkc ?_; intro w9 G9 g9)
        go_roundg (fr yn yc - (k + 1))
        case measure => have := HLT.out; omega
        case rel => exact ⟨k + 1, rfl, rfl, G9, hCA.trans ((Chg.of_grown g9).mono fun j _ e => e)⟩
      · have t1 : decide ((k : Int) < (fr yn yc : Int)) = false := by simp; omega
        have t2 : decide (k < fr yn yc) = false := by simp; omega
        go_wp2
        go_meet
        case rel => exact ⟨k, rfl, hG, hC⟩
  case rest =>
  obtain ⟨W8, hW8⟩ : ∃ W, W = wc := ⟨_, rfl⟩
  subst hW8
  obtain ⟨kW8, rfl, GY8, KW8⟩ := hcut
  have GX8 := GX7.chg KW8 (by obtain ⟨_, o1, _⟩ := GX7; obtain ⟨_, o2, _⟩ := GY7; exact kept_other KW8 o2 o1 (by decide))
  have K58 : Chg (fun g => (Value.slice xo xn xc).ownBlock = some g ∨ (Value.slice yo yn yc).ownBlock = some g) W5 W8 := (K6.mono fun _ _ e => e.elim).trans ((KW7.mono fun _ _ e => .inl e).trans (KW8.mono fun _ _ e => .inr e))
  obtain ⟨l1, q1, q2, q3⟩ := GX8
  obtain ⟨l2, q4, q5, q6⟩ := GY8
  have GB := HB5.out.grown K58 (x' := .slice xo kW7 xc) (y' := .slice yo kW8 yc) (l := l1) (l' := l2) (by rw [q2]; exact q1) q3 (by cases xo <;> rfl) (by rw [q5]; exact q4) q6 (by cases yo <;> rfl)
  have SB := HB5.out.stores K58
  obtain ⟨B8, ⟨vs8, s1⟩, s2, ⟨va8, s3⟩, s4, s5, s6, s7⟩ := SB
  obtain ⟨⟨e0, e1, e2⟩, ef⟩ := box3 B8
  clear cF1 cF2 GX6 GY6 GX7 GY7 K6 KW7 KW8 K58 b6 q1 q2 q3 q4 q5 q6 B8
  go_upto_region 18 with fail
  obtain ⟨hB9, K9⟩ := GB
  have KT9 := KT5.out.trans K9
  generalize (W8.setCell ⟨gs, m, none⟩ (.slice xo kW7 xc)).setCell ⟨ga, m, none⟩ (.slice yo kW8 yc) = W10 at *
  obtain ⟨⟨i0, i1, i2⟩, jf⟩ := box3 hB9.box
  have t3 : decide ((m : Int) + 1 < ((m + 1 : Nat) : Int)) = false := by simp
  have t4 : decide ((m : Int) + 1 < (m : Int) + 1) = false := by simp
  have hm2 : m + 1 ≤ 41944 := HM.out.2
  clear e0 e1 e2 ef s1 s2 s3 s4 t1 t1' t2'
  go_wp2_with fail
  rw [rounds_succ]
  go_wp2
  (try simp only [Exit.inBlock, Exit.then])
  (first | refine bodyPost_end (v := .tuple #[]) (by simp [results, Try.results9]) rfl ?_ | refine bodyPost_ret (v := .tuple #[]) (by simp [results, Try.results9]) rfl ?_)
  exact ⟨rfl, ⟨_, _, _, _, _, _, _, _, hB9⟩, KT9⟩
set_option maxRecDepth 20000 in
set_option maxHeartbeats 4000000 in
theorem take_any (bb gl : Nat) (so ao xo yo : Option Addr) (m sc ac xn xc yn yc : Nat) (sz : Int) (vs us : List Value) (zx zy : List Int) (S T : Nat → Prop) (w : World) (h : Bk w S bb so ao m m sc ac sz vs us)
    (hl : w.heap[gl]? = some (.cells #[.slice xo xn xc, .slice yo yn yc] 36 (0, 0))) (hx : w.ownsRow 0 3 1 (.slice xo xn xc) xn (zx.map (Value.int .i64))) (hxl : zx.length = xn) (hy : w.ownsRow 0 2 1 (.slice yo yn yc) yn (zy.map (Value.int .i64))) (hyl : zy.length = yn)
    (hxr : xn * 8 ≤ 140737488351232) (hyr : yn * 8 ≤ 140737488351232) (hxc : xc ≤ 9223372036854775807) (hyc : yc ≤ 9223372036854775807) (hxS : ∀ g, (Value.slice xo xn xc).ownBlock = some g → ¬ S g) (hyS : ∀ g, (Value.slice yo yn yc).ownBlock = some g → ¬ S g)
    (hST : ∀ g, S g → T g) (hNT : ∀ g, w.heap.size ≤ g → T g) (hxT : ∀ g, (Value.slice xo xn xc).ownBlock = some g → T g) (hyT : ∀ g, (Value.slice yo yn yc).ownBlock = some g → T g) :
    Calls Try.prog 9 #[.pointer (some ⟨bb, 0, none⟩), .slice (some ⟨gl, 0, none⟩) 1 1] w fun e w' => e = .returned (.tuple #[]) ∧ (∃ so' ao' m' sc' ac' sz' vs' us', Bk w' T bb so' ao' m' m' sc' ac' sz' vs' us') ∧ Chg T w w' := by
  by_cases hz : 33554432 < sz
  · have cR := room_no bb (.slice so m sc) (.slice ao m ac) sz xo yo xn xc yn yc w h.box hz
    obtain ⟨⟨b0, b1, b2⟩, bf⟩ := box3 h.box
    obtain ⟨l0, l1, _, _⟩ := box2 hl
    have t3 : decide ((m : Int) < (m : Int)) = false := by simp
    have HB : Hid (Bk w S bb so ao m m sc ac sz vs us) := h
    clear h hl hx hy
    go_enter Try.func9, Try.ntmps9
    go_wp2_with fail
    refine wp_loop_rounds 2 ?_
    rw [rounds_succ]
    go_wp2_with (go_at_call 17; (with_reducible refine cR.mono ?_); rintro e W1 ⟨rfl, K1⟩; have hB1 := HB.out.below K1; have kk := Chg.of_below K1 (Nat.le_refl _) T; obtain ⟨⟨d0, d1, d2⟩, df⟩ := box3 hB1.box)
    rw [rounds_succ]
    go_wp2_with fail
    refine wp_loop_rounds 1 ?_
    rw [rounds_succ]
    go_wp2
    (try simp only [Exit.inBlock, Exit.then])
    (first | refine bodyPost_end (v := .tuple #[]) (by simp [results, Try.results9]) rfl ?_ | refine bodyPost_ret (v := .tuple #[]) (by simp [results, Try.results9]) rfl ?_)
    exact ⟨rfl, ⟨_, _, _, _, _, _, _, _, hB1.mono hST⟩, kk⟩
  · exact take_yes bb gl so ao xo yo m sc ac xn xc yn yc sz vs us zx zy S T w h hz hl hx hxl hy hyl hxr hyr hxc hyc hxS hyS hST hNT hxT hyT
end Go.Proofs.Ytlajainnpnbcaaa
