
/- Package seek and the document's answers: which op has which valence; what is refused. -/

import Derived.Test.YtmepcenbaohcoaaGreatC13

import Derived.Test.YtmepcenbaohcoaaGreatH2

import Derived.Test.YtmepcenbaohcoaaGreatSFa

import Derived.Test.YtmepcenbaohcoaaGreatYH

import Derived.Deep.RegionHeld3

import Derived.Test.YtmepcenbaohcoaaGreatSFb

namespace Go.Proofs.YtmepcenbaohcoaaGreat

open Go.RowKit

set_option linter.unusedVariables false

theorem itX_at {s a : List Int} (h : mayA s a = 0) {z k : Nat} (hz : itmZ s a = z) (hk : k < itN s) : itX s a k = (s.drop 1, (a.drop (k * z)).take z) := by
  obtain ⟨e0, e1, e2⟩ := itX_itm h hk
  have j0 : itmJ s (k : Int) = k := by unfold itmJ; rw [if_neg (by omega)]; exact Int.toNat_natCast k
  rw [itmS, if_pos e0] at e1
  rw [itmA, if_pos e0, j0, hz] at e2
  exact Prod.ext e1.symm e2.symm
/-- A row of arrays, one array more, at a statement. -/
theorem wpList_joinA {w : World} {ops : Array Oper} {rest : List Oper} {o : Oper} {a : Act} {Q : Exit → Act → World → Prop} (hgd : o.guard = none) (s x : Operand)
    (ho : o.op = .call { callee := .builtin .append, args := #[s, x], argTypes := #[55, 55] }) (B vb : Nat) (go : Option Addr) (n gc : Nat) (cs : List Value) (u v : Value) (hu : u.oneCell' = true) (hv' : v.oneCell' = true) (hs : a.eval s = .slice go n gc) (hx : a.eval x = .slice (some ⟨vb, 0, none⟩) 1 1)
    (h : w.ownsRow B 30 2 (.slice go n gc) n cs) (hv : w.heap[vb]? = some (.cells #[u, v] 30 (0, 0))) (hn : n ≤ 5000) (hB : B ≤ w.heap.size)
    (hK : ∀ co c w', w'.ownsRow B 30 2 (.slice co (n + 1) c) (n + 1) (cs ++ [u, v]) → w.grownBy w' (Value.slice go n gc).ownBlock → wpList Tryz.prog ops Q rest (a.put o.dst (.slice co (n + 1) c)) w') : wpList Tryz.prog ops Q (o :: rest) a w := by
  obtain ⟨i0, hi, hz0, hz1, hz2⟩ := info_parts infoA
  obtain ⟨x0, x1, _, _⟩ := box2 hv
  refine wpList_append_own w hgd s x 55 ho B 30 i0 (.agg #[.slice none 0 0, .slice none 0 0]) 2 48 Tryz.underlying55 hi hz0 hz1 hz2 (by simp [Value.cells]) (by decide) (.slice go n gc) n _ hs h ⟨vb, 0, none⟩ 1 1 [u, v] hx rfl
    (fun j q hq => ?_) (fun q hq => ?_) (by unfold maxLen; omega) (by omega) hB (fun v' w' ho' hg' _ => ?_)
  · rw [add_at, Nat.zero_add]
    match j with
    | 0 => cases hq; exact x0
    | 1 => cases hq; exact x1
    | j + 2 => simp at hq
  · simp at hq
    rcases hq with rfl | rfl
    · exact hu
    · exact hv'
  · rcases ho'.2 with ⟨e, h0⟩ | ⟨g, c, cur, e, _⟩
    · omega
    · subst e
      exact hK _ _ _ ho' hg'
theorem grows_below {W W' : World} {B : Nat} {go : Option Addr} {n gc : Nat} {cs : List Value} (h : W.ownsRow B 30 2 (.slice go n gc) n cs) (hg : W.grownBy W' (Value.slice go n gc).ownBlock) (hB : B ≤ W.heap.size) : Below B W W' :=
  ⟨hg.os, hg.tape, hg.output, hg.size, fun j hj => hg.block j (Nat.lt_of_lt_of_le hj hB) (fun e => by have := (h.lt j e.symm).1; omega)⟩
theorem gv_mono {W : World} {B B' : Nat} {go : Option Addr} {n gc : Nat} {xs : Nat → List Int × List Int} (h : Gv W B go n gc xs) (hB : B' ≤ B) : Gv W B' go n gc xs := by
  obtain ⟨cs, h1, h2⟩ := h
  refine ⟨cs, ⟨h1.1, ?_⟩, fun j hj => ?_⟩
  · rcases h1.2 with h0 | ⟨g, c, cur, e, hb, r⟩
    · exact .inl h0
    · exact .inr ⟨g, c, cur, e, Nat.le_trans hB hb, r⟩
  · obtain ⟨a1, a2, a3, a4, a5, a6, b1, b2, b3, b4⟩ := h2 j hj
    exact ⟨a1, a2, a3, a4, a5, a6, b1, b2, b3.mono hB, b4.mono hB⟩
theorem gv_push {W W' : World} {B : Nat} {go co : Option Addr} {n gc c : Nat} {xs : Nat → List Int × List Int} {so uo : Option Addr} {sn sc tn tc : Nat} {cs : List Value} (hown : W.ownsRow B 30 2 (.slice go n gc) n cs)
    (hel : ∀ j, j < n → ∃ so sn sc uo tn tc, cs[j * 2]? = some (.slice so sn sc) ∧ cs[j * 2 + 1]? = some (.slice uo tn tc) ∧ Ft 3 W B so sn sc (xs j).1 ∧ Ft 2 W B uo tn tc (xs j).2)
    (f1 : Ft 3 W B so sn sc (xs n).1) (f2 : Ft 2 W B uo tn tc (xs n).2) (h2 : W'.ownsRow B 30 2 (.slice co (n + 1) c) (n + 1) (cs ++ [.slice so sn sc, .slice uo tn tc])) (hg : W.grownBy W' (Value.slice go n gc).ownBlock) : Gv W' B co (n + 1) c xs := by
  have hl : cs.length = n * 2 := hown.1
  refine ⟨_, h2, fun j hj => ?_⟩
  by_cases hjn : j < n
  · obtain ⟨a1, a2, a3, a4, a5, a6, b1, b2, b3, b4⟩ := hel j hjn
    exact ⟨a1, a2, a3, a4, a5, a6, by rw [List.getElem?_append_left (by omega)]; exact b1, by rw [List.getElem?_append_left (by omega)]; exact b2, b3.app hown hg (by decide), b4.app hown hg (by decide)⟩
  · obtain rfl : j = n := by omega
    exact ⟨so, sn, sc, uo, tn, tc, by rw [List.getElem?_append_right (by omega), hl, Nat.sub_self]; rfl, by rw [List.getElem?_append_right (by omega), hl, show j * 2 + 1 - j * 2 = 1 by omega]; rfl, f1.app hown hg (by decide), f2.app hown hg (by decide)⟩
/-- Items under way: a row of their own, behind W. -/
structure Im (W V : World) (go : Option Addr) (k gc : Nat) (xs : Nat → List Int × List Int) : Prop where
  gv : Gv V W.heap.size go k gc xs
  bel : Below W.heap.size W V
set_option maxHeartbeats 4000000 in
set_option maxRecDepth 20000 in
theorem refItems7_any (so ao : Option Addr) (sn sc an ac : Nat) (s a : List Int) (w : World) (h : Rd w so sn s) (hs : Sl so sn sc) (g : Rd w ao an a) (gs : Sl ao an ac) (my : mayA s a = 0) :
    Calls Tryz.prog 23 #[.agg #[.slice so sn sc, .slice ao an ac]] w fun e w' => ∃ go gc, e = .returned (.slice go (itN s) gc) ∧ Gv w' w.heap.size go (itN s) gc (itX s a) ∧ Below w.heap.size w w' := by
  have k0 := box_below w (.cells #[.slice so sn sc, .slice ao an ac] 30)
  have n0 := allocNew w (.cells #[.slice so sn sc, .slice ao an ac] 30)
  have hf := (mayA_zero my).1
  have htl := itN_tal hf
  have tb := tal_bd hf
  have hn4 : itN s ≤ 4096 := by omega
  obtain ⟨z, hz⟩ : ∃ z, itmZ s a = z := ⟨_, rfl⟩
  have HX : Hid (∀ k, k < itN s → itX s a k = (s.drop 1, (a.drop (k * z)).take z)) := fun k hk => itX_at my hz hk
  have HR : Hid (∀ V, Below w.heap.size w V → Rd V so sn s ∧ Rd V ao an a) := fun V k => ⟨h.below k (Nat.le_refl _), g.below k (Nat.le_refl _)⟩
  have HI : Hid (∀ V, Below w.heap.size w V → Calls Tryz.prog 33 #[.agg #[.slice so sn sc, .slice ao an ac]] V fun e w' => e = .returned (.int .i64 ((itN s : Nat) : Int)) ∧ Below V.heap.size V w') := fun V k => by
    have r := refItems_any so ao sn sc an ac s a V (HR.out V k).1 (HR.out V k).2
    rw [show itm s a = tal s from if_pos my, ← htl] at r
    exact r
  have HA : Hid (∀ V (j : Nat), Below w.heap.size w V → j < itN s → Calls Tryz.prog 51 #[.agg #[.slice so sn sc, .slice ao an ac], .int .i64 (j : Nat)] V fun e w' => ∃ o1 n1 c1 o2 n2 c2, e = .returned (.agg #[.slice o1 n1 c1, .slice o2 n2 c2]) ∧ Ft 3 w' V.heap.size o1 n1 c1 (itX s a j).1 ∧ Ft 2 w' V.heap.size o2 n2 c2 (itX s a j).2 ∧ Below V.heap.size V w') := fun V j k hj => by
    refine (refAt_any3 so ao sn sc an ac s a V (HR.out V k).1 hs (HR.out V k).2 gs my htl.symm hz j hj).mono ?_
    rintro e w' ⟨o1, c1, o2, c2, rfl, f1, f2, kk⟩
    rw [HX.out j hj]
    exact ⟨o1, _, c1, o2, _, c2, rfl, f1, f2, kk⟩
  clear h g my hf htl hz HX HR tb
  generalize itN s = N at *
  generalize itX s a = xs at *
  obtain ⟨W, hW⟩ : ∃ W, w.alloc (.cells #[.slice so sn sc, .slice ao an ac] 30) = W := ⟨_, rfl⟩
  have hWs : W.heap.size = w.heap.size + 1 := by rw [← hW]; simp
  rw [hW] at k0 n0
  have I0 : Im W W none 0 0 xs := ⟨Gv.nil _ _ _, Below.refl _ _⟩
  have HL : Hid (∀ V, Below W.heap.size W V → V.cell? ⟨w.heap.size, 0, none⟩ = some (.slice so sn sc) ∧ V.cell? ⟨w.heap.size, 1, none⟩ = some (.slice ao an ac) ∧ Below w.heap.size w V) := fun V k => by
    have b := (k.block w.heap.size (by omega)).trans n0
    obtain ⟨x0, x1, _, _⟩ := box2 b
    exact ⟨x0, x1, k0.trans (k.mono k0.size)⟩
  clear k0 n0
  go_enter Tryz.func23, Tryz.ntmps23
  go_wp2
  (try rw [hW])
  clear hW
  go_loopw [3, 4] (fun l i V => ∃ (k : Nat) (go : Option Addr) (gc : Nat), k ≤ N ∧ l = .slice go k gc ∧ i = .int .i64 (k : Nat) ∧ Im W V go k gc xs) (fun _ i _ => N - (intOf i).toNat)
  case atStart => exact ⟨0, none, 0, Nat.zero_le _, rfl, rfl, I0⟩
  case round =>
    clear I0
    obtain ⟨k, go, gc, hk, rfl, rfl, IM⟩ := hrel
    obtain ⟨y0, y1, bw⟩ := HL.out wr IM.bel
    have cI := HI.out wr bw
    by_cases hlt : k < N
    · have t1 : decide ((k : Int) < (N : Int)) = true := by simp; omega
      have t1' : decide (k < N) = true := by simp; omega
      obtain ⟨cs, ho, hel⟩ := IM.gv
      go_wp2_with (first
        | (go_at_call 33; (with_reducible refine cI.mono ?_); rintro e V1 ⟨rfl, k1⟩; have b1 := IM.bel.trans (k1.mono IM.bel.size); obtain ⟨z0, z1, bw1⟩ := HL.out V1 b1; have cA := HA.out V1 k bw1 hlt)
        | (go_at_call 51; (with_reducible refine cA.mono ?_); rintro e V2 ⟨o1, n1, c1, o2, n2, c2, rfl, f1, f2, k2⟩)
        | (refine wpList_joinA rfl (.tmp 11) (.tmp 15) rfl W.heap.size V2.heap.size go k gc cs (.slice o1 n1 c1) (.slice o2 n2 c2) rfl rfl rfl rfl (own_below (own_below (own_below ho k1 (Nat.le_refl _)) k2 (Nat.le_refl _)) (box_below V2 (.cells #[.slice o1 n1 c1, .slice o2 n2 c2] 30)) (Nat.le_refl _)) (allocNew V2 (.cells #[.slice o1 n1 c1, .slice o2 n2 c2] 30)) (by omega) (by have := IM.bel.size; have := k1.size; have := k2.size; simp; omega) ?_
           intro co c V4 h4 g4))
      go_roundw
      case measure => simp [intOf]; omega
      case rel =>
        have kb := box_below V2 (.cells #[.slice o1 n1 c1, .slice o2 n2 c2] 30)
        have s0 := IM.bel.size
        have s1 := k1.size
        have s2 := k2.size
        have ho3 := own_below (own_below (own_below ho k1 (Nat.le_refl _)) k2 (Nat.le_refl _)) kb (Nat.le_refl _)
        have b3 := (b1.trans (k2.mono b1.size)).trans (kb.mono (Nat.le_trans b1.size s2))
        refine ⟨k + 1, co, c, by omega, rfl, by go_num, ⟨gv_push ho3 (fun j hj => ?_) ((f1.below kb (Nat.le_refl _)).mono (by omega)) ((f2.below kb (Nat.le_refl _)).mono (by omega)) h4 g4, b3.trans (grows_below ho3 g4 (by simp; omega))⟩⟩
        obtain ⟨a1, a2, a3, a4, a5, a6, q1, q2, q3, q4⟩ := hel j hj
        exact ⟨a1, a2, a3, a4, a5, a6, q1, q2, ((q3.below k1 (Nat.le_refl _)).below k2 (Nat.le_refl _)).below kb (Nat.le_refl _), ((q4.below k1 (Nat.le_refl _)).below k2 (Nat.le_refl _)).below kb (Nat.le_refl _)⟩
    · obtain rfl : k = N := by omega
      have t1 : decide ((k : Int) < (k : Int)) = false := by simp
      go_wp2_with (first
        | (go_at_call 33; (with_reducible refine cI.mono ?_); rintro e V1 ⟨rfl, k1⟩))
      go_ret
      exact ⟨go, gc, rfl, gv_mono (IM.gv.below k1 (Nat.le_refl _)) (by omega), bw.trans (k1.mono bw.size)⟩
end Go.Proofs.YtmepcenbaohcoaaGreat

namespace Go.Proofs.YtmepcenbaohcoaaGreat

open Go.RowKit

set_option linter.unusedVariables false

theorem eqP_yes {x t : List Int × List Int} (h : x = t) : eqA x.1 x.2 t.1 t.2 = true := (eqA_iff _ _ _ _).2 ⟨by rw [h], by rw [h]⟩
theorem eqP_no {x t : List Int × List Int} (h : x ≠ t) : eqA x.1 x.2 t.1 t.2 = false := by
  cases hh : eqA x.1 x.2 t.1 t.2 with
  | false => rfl
  | true => exact absurd (Prod.ext ((eqA_iff _ _ _ _).1 hh).1 ((eqA_iff _ _ _ _).1 hh).2) h
set_option maxHeartbeats 4000000 in
set_option maxRecDepth 20000 in
theorem refFirst7_any (lo : Option Addr) (n lc : Nat) (xs : Nat → List Int × List Int) (so ao : Option Addr) (sn sc an ac : Nat) (t : List Int × List Int) (w : World) (h : AsQ w lo n xs) (hn : n ≤ 5000) (hs : Rd w so sn t.1) (ha : Rd w ao an t.2) :
    Calls Tryz.prog 27 #[.slice lo n lc, .agg #[.slice so sn sc, .slice ao an ac]] w fun e w' => e = .returned (.int .i64 ((fsq xs n t : Nat) : Int)) ∧ Below w.heap.size w w' := by
  have k0 := box_below w (.cells #[.slice so sn sc, .slice ao an ac] 30)
  have n0 := allocNew w (.cells #[.slice so sn sc, .slice ao an ac] 30)
  obtain ⟨W, hW⟩ : ∃ W, w.alloc (.cells #[.slice so sn sc, .slice ao an ac] 30) = W := ⟨_, rfl⟩
  rw [hW] at k0 n0
  have hsz := k0.size
  have hb := (Array.getElem?_eq_some_iff.1 n0).1
  have HL : Hid (∀ V, Below W.heap.size W V → V.cell? ⟨w.heap.size, 0, none⟩ = some (.slice so sn sc) ∧ V.cell? ⟨w.heap.size, 1, none⟩ = some (.slice ao an ac) ∧ Below w.heap.size w V ∧ AsQ V lo n xs ∧ Rd V so sn t.1 ∧ Rd V ao an t.2) := fun V k => by
    have bv := k0.trans (k.mono hsz)
    obtain ⟨x0, x1, _, _⟩ := box2 ((k.block w.heap.size hb).trans n0)
    exact ⟨x0, x1, bv, h.below bv (Nat.le_refl _), hs.below bv (Nat.le_refl _), ha.below bv (Nat.le_refl _)⟩
  obtain ⟨r, hr⟩ : ∃ r, fsq xs n t = r := ⟨_, rfl⟩
  have HF : Hid (FsQ xs n t r) := hr ▸ fsq_is xs n t
  have hrn : r ≤ n := HF.out.le
  rw [hr]
  clear k0 n0 h hs ha hsz hb hr
  go_enter Tryz.func27, Tryz.ntmps27
  go_wp2
  (try rw [hW])
  clear hW
  go_loopw [5] (fun i V => ∃ k : Nat, k ≤ r ∧ i = .int .i64 (k : Nat) ∧ Below W.heap.size W V) (fun i _ => n - (intOf i).toNat)
  case atStart => exact ⟨0, Nat.zero_le _, rfl, Below.refl _ _⟩
  case round =>
    obtain ⟨k, hk, rfl, BV⟩ := hrel
    by_cases hlt : k < n
    · have t1 : decide ((k : Int) < (n : Int)) = true := by simp; omega
      have t2 : (k : Int) < (n : Int) := by omega
      obtain ⟨_, _, _, A, _, _⟩ := HL.out wr BV
      obtain ⟨b, off, rfl, hb, hc⟩ := A.cells (by omega)
      obtain ⟨eo, en, ec, fo, fn, fc, q0, q1, r0, _, r1, _⟩ := hc k hlt
      have AL : ∀ V, Below wr.heap.size wr V → V.cell? ⟨b, off + k * 2, none⟩ = some (.slice eo en ec) ∧ V.cell? ⟨b, off + k * 2 + 1, none⟩ = some (.slice fo fn fc) ∧ V.cell? ⟨w.heap.size, 0, none⟩ = some (.slice so sn sc) ∧ V.cell? ⟨w.heap.size, 1, none⟩ = some (.slice ao an ac) ∧ Below wr.heap.size wr V := fun V kk => by
        obtain ⟨z0, z1, _, _, _, _⟩ := HL.out V (BV.trans (kk.mono BV.size))
        exact ⟨(kk.cell (p := ⟨b, off + k * 2, none⟩) hb).trans q0, (kk.cell (p := ⟨b, off + k * 2 + 1, none⟩) hb).trans q1, z0, z1, kk⟩
      have cS : ∀ V, Below wr.heap.size wr V → Calls Tryz.prog 36 #[.agg #[.slice eo en ec, .slice fo fn fc], .agg #[.slice so sn sc, .slice ao an ac]] V fun e w' => e = .returned (.bool (eqA (xs k).1 (xs k).2 t.1 t.2)) ∧ Below wr.heap.size wr w' := fun V kk => by
        obtain ⟨_, _, _, _, rs, ra⟩ := HL.out V (BV.trans (kk.mono BV.size))
        refine (refSame_any eo fo so ao en ec fn fc sn sc an ac (xs k).1 (xs k).2 t.1 t.2 V (r0.below kk (Nat.le_refl _)) (r1.below kk (Nat.le_refl _)) rs ra).mono ?_
        rintro e w' ⟨rfl, k5⟩
        exact ⟨rfl, kk.trans (k5.mono kk.size)⟩
      have HC : Hid (∀ V, Below wr.heap.size wr V → Below w.heap.size w V) := fun V kk => (HL.out V (BV.trans (kk.mono BV.size))).2.2.1
      have B0 : Below wr.heap.size wr wr := Below.refl _ _
      clear hc A r0 r1 q0 q1
      by_cases he : k = r
      · rw [eqP_yes (by rw [he]; exact HF.out.yes (by omega))] at cS
        have HE : Hid (k = r) := he
        clear he
        go_wp2
        go_region_held3 (fun V => V.cell? ⟨b, off + k * 2, none⟩ = some (.slice eo en ec) ∧ V.cell? ⟨b, off + k * 2 + 1, none⟩ = some (.slice fo fn fc) ∧ V.cell? ⟨w.heap.size, 0, none⟩ = some (.slice so sn sc) ∧ V.cell? ⟨w.heap.size, 1, none⟩ = some (.slice ao an ac) ∧ Below wr.heap.size wr V) (first | exact AL _ (by assumption) | exact AL _ (Below.drew (by assumption)))
          (first | (go_at_call 36; (with_reducible refine (cS _ (‹_ ∧ _ ∧ _ ∧ _ ∧ Below wr.heap.size wr _›).2.2.2.2).mono ?_); rintro e V1 ⟨rfl, k1⟩))
        go_wp2
        go_ret
        have e5 := HE.out
        subst e5
        exact ⟨rfl, HC.out _ k1⟩
      · rw [eqP_no (HF.out.no k (by omega))] at cS
        have hk2 : k + 1 ≤ r := by omega
        clear he
        go_wp2
        go_region_held3 (fun V => V.cell? ⟨b, off + k * 2, none⟩ = some (.slice eo en ec) ∧ V.cell? ⟨b, off + k * 2 + 1, none⟩ = some (.slice fo fn fc) ∧ V.cell? ⟨w.heap.size, 0, none⟩ = some (.slice so sn sc) ∧ V.cell? ⟨w.heap.size, 1, none⟩ = some (.slice ao an ac) ∧ Below wr.heap.size wr V) (first | exact AL _ (by assumption) | exact AL _ (Below.drew (by assumption)))
          (first | (go_at_call 36; (with_reducible refine (cS _ (‹_ ∧ _ ∧ _ ∧ _ ∧ Below wr.heap.size wr _›).2.2.2.2).mono ?_); rintro e V1 ⟨rfl, k1⟩))
        go_wp2
        go_roundw
        case measure => simp [intOf]; omega
        case rel => exact ⟨k + 1, hk2, by go_num, BV.trans (k1.mono BV.size)⟩
    · obtain rfl : k = n := by omega
      obtain rfl : k = r := by omega
      have t1 : decide ((k : Int) < (k : Int)) = false := by simp
      obtain ⟨_, _, bw, _, _, _⟩ := HL.out wr BV
      go_wp2
      go_ret
      exact ⟨rfl, bw⟩
end Go.Proofs.YtmepcenbaohcoaaGreat

namespace Go.Proofs.YtmepcenbaohcoaaGreat

open Go.RowKit

set_option linter.unusedVariables false

theorem AnsQ.mono {w w' : World} {Φ Ψ : List Int → List Int → Prop} {E : Int} {e : Ending} (h : AnsQ w Φ E e w') (k : ∀ S A, Φ S A → Ψ S A) : AnsQ w Ψ E e w' := by
  obtain ⟨o1, n1, c1, o2, n2, c2, S, A, e1, f1, f2, p, b⟩ := h
  exact ⟨o1, n1, c1, o2, n2, c2, S, A, e1, f1, f2, k _ _ p, b⟩
theorem AnsQ.e {w w' : World} {z : List Int × List Int} {E : Int} {e : Ending} (h : AnsQ w (fun S A => S = z.1 ∧ A = z.2) E e w') : AnsE w z e w' := ⟨E, h⟩
theorem none_of {O : Int} (h : O ≠ 27 ∧ O ≠ 34 ∧ O ≠ 35 ∧ O ≠ 36 ∧ O ≠ 11 ∧ O ≠ 10 ∧ O ≠ 37 ∧ O ≠ 38 ∧ O ≠ 18 ∧ O ≠ 19) : ∀ j, j < 10 → (sOp j == O) = false := by
  obtain ⟨h0, h1, h2, h3, h4, h5, h6, h7, h8, h9⟩ := h
  intro j hj
  have key : ∀ k : Int, O ≠ k → (k == O) = false := fun k hk => by simpa using fun e => hk e.symm
  match j, hj with
  | 0, _ => exact key 27 h0
  | 1, _ => exact key 34 h1
  | 2, _ => exact key 35 h2
  | 3, _ => exact key 36 h3
  | 4, _ => exact key 11 h4
  | 5, _ => exact key 10 h5
  | 6, _ => exact key 37 h6
  | 7, _ => exact key 38 h7
  | 8, _ => exact key 18 h8
  | 9, _ => exact key 19 h9
section

variable {s a t b : List Int}

end

end Go.Proofs.YtmepcenbaohcoaaGreat

namespace Go.Proofs.YtmepcenbaohcoaaGreat

open Go.RowKit

set_option linter.unusedVariables false

def rowS (op : Int) : Bool := decide (op = 27 ∨ op = 34 ∨ op = 35 ∨ op = 36 ∨ op = 11 ∨ op = 10 ∨ op = 37 ∨ op = 38 ∨ op = 18 ∨ op = 19)
def hsS (op v : Int) : Bool := if op = 36 ∨ op = 11 ∨ op = 10 then v == 1 else if op = 37 ∨ op = 38 then (v == 1 || v == 2) else (rowS op && v == 2)
theorem refRow7 (op : Int) (w : World) : Calls Tryz.prog 16 #[.int .i64 op] w fun e w' => e = .returned (.bool (rowS op)) ∧ w' = w := by
  by_cases h27 : op = 27
  · subst h27
    go_enter Tryz.func16, Tryz.ntmps16
    go_wp2
    go_ret
    exact ⟨rfl, rfl⟩
  by_cases h34 : op = 34
  · subst h34
    go_enter Tryz.func16, Tryz.ntmps16
    go_wp2
    go_ret
    exact ⟨rfl, rfl⟩
  by_cases h35 : op = 35
  · subst h35
    go_enter Tryz.func16, Tryz.ntmps16
    go_wp2
    go_ret
    exact ⟨rfl, rfl⟩
  by_cases h36 : op = 36
  · subst h36
    go_enter Tryz.func16, Tryz.ntmps16
    go_wp2
    go_ret
    exact ⟨rfl, rfl⟩
  by_cases h11 : op = 11
  · subst h11
    go_enter Tryz.func16, Tryz.ntmps16
    go_wp2
    go_ret
    exact ⟨rfl, rfl⟩
  by_cases h10 : op = 10
  · subst h10
    go_enter Tryz.func16, Tryz.ntmps16
    go_wp2
    go_ret
    exact ⟨rfl, rfl⟩
  by_cases h37 : op = 37
  · subst h37
    go_enter Tryz.func16, Tryz.ntmps16
    go_wp2
    go_ret
    exact ⟨rfl, rfl⟩
  by_cases h38 : op = 38
  · subst h38
    go_enter Tryz.func16, Tryz.ntmps16
    go_wp2
    go_ret
    exact ⟨rfl, rfl⟩
  by_cases h18 : op = 18
  · subst h18
    go_enter Tryz.func16, Tryz.ntmps16
    go_wp2
    go_ret
    exact ⟨rfl, rfl⟩
  by_cases h19 : op = 19
  · subst h19
    go_enter Tryz.func16, Tryz.ntmps16
    go_wp2
    go_ret
    exact ⟨rfl, rfl⟩
  have hr : rowS op = false := decide_eq_false (by rintro (e | e | e | e | e | e | e | e | e | e) <;> contradiction)
  have t27 : (op == 27) = false := by simpa using h27
  have t34 : (op == 34) = false := by simpa using h34
  have t35 : (op == 35) = false := by simpa using h35
  have t36 : (op == 36) = false := by simpa using h36
  have t11 : (op == 11) = false := by simpa using h11
  have t10 : (op == 10) = false := by simpa using h10
  have t37 : (op == 37) = false := by simpa using h37
  have t38 : (op == 38) = false := by simpa using h38
  have t18 : (op == 18) = false := by simpa using h18
  have t19 : (op == 19) = false := by simpa using h19
  rw [hr]
  clear hr h27 h34 h35 h36 h11 h10 h37 h38 h18 h19
  go_enter Tryz.func16, Tryz.ntmps16
  go_wp2
  go_ret
  exact ⟨rfl, rfl⟩
theorem refHas7 (op v : Int) (w : World) : Calls Tryz.prog 6 #[.int .i64 op, .int .i64 v] w fun e w' => e = .returned (.bool (hsS op v)) ∧ w' = w := by
  by_cases h36 : op = 36
  · subst h36
    go_enter Tryz.func6, Tryz.ntmps6
    go_wp2
    go_ret
    exact ⟨rfl, rfl⟩
  by_cases h11 : op = 11
  · subst h11
    go_enter Tryz.func6, Tryz.ntmps6
    go_wp2
    go_ret
    exact ⟨rfl, rfl⟩
  by_cases h10 : op = 10
  · subst h10
    go_enter Tryz.func6, Tryz.ntmps6
    go_wp2
    go_ret
    exact ⟨rfl, rfl⟩
  by_cases h37 : op = 37
  · subst h37
    by_cases h1 : v = 1
    · subst h1
      go_enter Tryz.func6, Tryz.ntmps6
      go_wp2
      go_ret
      exact ⟨rfl, rfl⟩
    · have t1 : (v == 1) = false := by simpa using h1
      have e : hsS 37 v = (v == 2) := by simp [hsS, t1]
      rw [e]
      clear h1 e
      go_enter Tryz.func6, Tryz.ntmps6
      go_wp2
      go_ret
      exact ⟨rfl, rfl⟩
  by_cases h38 : op = 38
  · subst h38
    by_cases h1 : v = 1
    · subst h1
      go_enter Tryz.func6, Tryz.ntmps6
      go_wp2
      go_ret
      exact ⟨rfl, rfl⟩
    · have t1 : (v == 1) = false := by simpa using h1
      have e : hsS 38 v = (v == 2) := by simp [hsS, t1]
      rw [e]
      clear h1 e
      go_enter Tryz.func6, Tryz.ntmps6
      go_wp2
      go_ret
      exact ⟨rfl, rfl⟩
  have e : hsS op v = (rowS op && v == 2) := by simp [hsS, h36, h11, h10, h37, h38]
  rw [e]
  have cR := fun V => refRow7 op V
  have t36 : (op == 36) = false := by simpa using h36
  have t11 : (op == 11) = false := by simpa using h11
  have t10 : (op == 10) = false := by simpa using h10
  have t37 : (op == 37) = false := by simpa using h37
  have t38 : (op == 38) = false := by simpa using h38
  clear e h36 h11 h10 h37 h38
  generalize rowS op = r at *
  cases r
  · go_enter Tryz.func6, Tryz.ntmps6
    go_wp2_with (go_at_call 16; (with_reducible refine (cR _).mono ?_); rintro e V1 ⟨rfl, hV⟩; rw [hV]; clear hV)
    go_ret
    exact ⟨rfl, rfl⟩
  · go_enter Tryz.func6, Tryz.ntmps6
    go_wp2_with (go_at_call 16; (with_reducible refine (cR _).mono ?_); rintro e V1 ⟨rfl, hV⟩; rw [hV]; clear hV)
    go_ret
    exact ⟨rfl, rfl⟩
/-- What is refused ahead: by the arrays, the op, the valence. -/
def bdS (op v : Int) (ok : Bool) : Int := if ok = true then (if rowS op = true then (if hsS op v = true then 0 else 16) else 1) else 1
set_option maxHeartbeats 2000000 in
theorem refBad7 (op v : Int) (lo : Option Addr) (n lc : Nat) (xs : Nat → List Int × List Int) (ok : Bool) (w : World) (h : AsQ w lo n xs) (hn : n ≤ 5) (hok : ok = true ↔ ∀ j, j < n → mayA (xs j).1 (xs j).2 = 0) :
    Calls Tryz.prog 22 #[.int .i64 op, .int .i64 v, .slice lo n lc] w fun e w' => e = .returned (.int .i64 (bdS op v ok)) ∧ Below w.heap.size w w' := by
  have HA : Hid (∀ V, Below w.heap.size w V → AsQ V lo n xs) := fun V k => h.below k (Nat.le_refl _)
  have HO : Hid (ok = true ↔ ∀ j, j < n → mayA (xs j).1 (xs j).2 = 0) := hok
  have cR := fun V => refRow7 op V
  have cH := fun V => refHas7 op v V
  clear h hok
  obtain ⟨E, hE⟩ : ∃ E, bdS op v ok = E := ⟨_, rfl⟩
  rw [hE]
  have HE : Hid (bdS op v ok = E) := hE
  clear hE
  go_enter Tryz.func22, Tryz.ntmps22
  go_wp2
  go_loopw [7] (fun i V => ∃ k : Nat, k ≤ n ∧ i = .int .i64 (k : Nat) ∧ Hid (∀ j, j < k → mayA (xs j).1 (xs j).2 = 0) ∧ Below w.heap.size w V) (fun i _ => n - (intOf i).toNat)
  case atStart => exact ⟨0, Nat.zero_le _, rfl, fun j hj => by omega, Below.refl _ _⟩
  case round =>
    obtain ⟨k, hk, rfl, HI, BV⟩ := hrel
    by_cases hlt : k < n
    · have t1 : decide ((k : Int) < (n : Int)) = true := by simp; omega
      have t2 : (k : Int) < (n : Int) := by omega
      obtain ⟨b, off, rfl, hb, hc⟩ := (HA.out wr BV).cells (by omega)
      obtain ⟨eo, en, ec, fo, fn, fc, q0, q1, r0, _, r1, _⟩ := hc k hlt
      have cM := refMayA_any eo fo en ec fn fc (xs k).1 (xs k).2 wr r0 r1
      clear hc r0 r1
      by_cases hm : mayA (xs k).1 (xs k).2 = 0
      · rw [hm] at cM
        have HM : Hid (mayA (xs k).1 (xs k).2 = 0) := hm
        clear hm
        go_wp2_with (go_at_call 50; (with_reducible refine cM.mono ?_); rintro e V1 ⟨rfl, k1⟩)
        go_roundw
        case measure => simp [intOf]; omega
        case rel =>
          refine ⟨k + 1, by omega, by go_num, fun j hj => ?_, BV.trans (k1.mono BV.size)⟩
          by_cases e : j = k
          · rw [e]; exact HM.out
          · exact HI.out j (by omega)
      · have hf : ok = false := by
          cases hh : ok with
          | false => rfl
          | true => exact absurd (HO.out.1 hh k hlt) hm
        have hE1 : E = 1 := by rw [← HE.out, bdS, hf]; rfl
        have HE1 : Hid (E = 1) := hE1
        clear hE1 hf
        generalize mayA (xs k).1 (xs k).2 = m at *
        have tm : (m != 0) = true := by simpa using hm
        have tm2 : (m == 0) = false := by simpa using hm
        clear hm
        go_wp2_with (go_at_call 50; (with_reducible refine cM.mono ?_); rintro e V1 ⟨rfl, k1⟩)
        go_ret
        exact ⟨by rw [HE1.out]; rfl, BV.trans (k1.mono BV.size)⟩
    · obtain rfl : k = n := by omega
      have t1 : decide ((k : Int) < (k : Int)) = false := by simp
      have hf : ok = true := HO.out.2 HI.out
      have hE2 := HE.out
      unfold bdS at hE2
      rw [if_pos hf] at hE2
      clear hf
      generalize rowS op = r at *
      generalize hsS op v = hv at *
      cases r
      · rw [if_neg (by decide)] at hE2
        have HE2 : Hid (1 = E) := hE2
        clear hE2
        go_wp2_with (first | (go_at_call 16; (with_reducible refine (cR _).mono ?_); rintro e V1 ⟨rfl, hV⟩; rw [hV]; clear hV))
        go_ret
        exact ⟨by rw [← HE2.out]; rfl, BV⟩
      · rw [if_pos rfl] at hE2
        cases hv
        · rw [if_neg (by decide)] at hE2
          have HE2 : Hid (16 = E) := hE2
          clear hE2
          go_wp2_with (first | (go_at_call 16; (with_reducible refine (cR _).mono ?_); rintro e V1 ⟨rfl, hV⟩; rw [hV]; clear hV) | (go_at_call 6; (with_reducible refine (cH _).mono ?_); rintro e V1 ⟨rfl, hV⟩; rw [hV]; clear hV))
          go_ret
          exact ⟨by rw [← HE2.out]; rfl, BV⟩
        · rw [if_pos rfl] at hE2
          have HE2 : Hid (0 = E) := hE2
          clear hE2
          go_wp2_with (first | (go_at_call 16; (with_reducible refine (cR _).mono ?_); rintro e V1 ⟨rfl, hV⟩; rw [hV]; clear hV) | (go_at_call 6; (with_reducible refine (cH _).mono ?_); rintro e V1 ⟨rfl, hV⟩; rw [hV]; clear hV))
          go_ret
          exact ⟨by rw [← HE2.out]; rfl, BV⟩
end Go.Proofs.YtmepcenbaohcoaaGreat
