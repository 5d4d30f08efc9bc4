
/- SeekAll: the walk. -/

import Derived.Test.YtmepcenbaohcoaaGreatZQ

import Derived.Test.YtmepcenbaohcoaaGreatYQ

import Derived.Test.YtmepcenbaohcoaaGreatQ0

import Derived.Deep.Cut

import Derived.Deep.RegionHeld3

namespace Go.Proofs.YtmepcenbaohcoaaGreat

open Go.RowKit

set_option linter.unusedVariables false

structure OpQ where
  K : Int
  O : Int
  N : Int
  so : Option Addr
  sn : Nat
  sc : Nat
  ao : Option Addr
  an : Nat
  ac : Nat
  uo : Option Addr
  tn : Nat
  tc : Nat
  bo : Option Addr
  bn : Nat
  bc : Nat
  s : List Int
  a : List Int
  t : List Int
  b : List Int
structure OkQ (w : World) (x : OpQ) : Prop where
  rs : Rd w x.so x.sn x.s
  ra : Rd w x.ao x.an x.a
  rt : Rd w x.uo x.tn x.t
  rb : Rd w x.bo x.bn x.b
  ss : Sl x.so x.sn x.sc
  sa : Sl x.ao x.an x.ac
  st : Sl x.uo x.tn x.tc
  sb : Sl x.bo x.bn x.bc
theorem Rd.lowB {w : World} {o : Option Addr} {n : Nat} {zs : List Int} (h : Rd w o n zs) : 0 < n → ∀ b off, o = some ⟨b, off, none⟩ → b < w.heap.size := by
  intro hn b off e
  obtain ⟨b', off', e', hb, _⟩ := h.cells hn
  rw [e] at e'; cases e'; exact hb
theorem seven {V : World} {p : Nat} {c0 c1 c2 c3 c4 c5 c6 : Value} (h : V.heap[p]? = some (.cells #[c0, c1, c2, c3, c4, c5, c6] 32 (0, 0))) : V.cell? ⟨p, 0, none⟩ = some c0 ∧ V.cell? ⟨p, 1, none⟩ = some c1 ∧ V.cell? ⟨p, 2, none⟩ = some c2 ∧ V.cell? ⟨p, 3, none⟩ = some c3 ∧ V.cell? ⟨p, 4, none⟩ = some c4 ∧ V.cell? ⟨p, 5, none⟩ = some c5 ∧ V.cell? ⟨p, 6, none⟩ = some c6 ∧ ∀ i, V.frozen? ⟨p, i, none⟩ = false :=
  ⟨cell_of_row V p 0 _ _ (0, 0) h, cell_of_row V p 1 _ _ (0, 0) h, cell_of_row V p 2 _ _ (0, 0) h, cell_of_row V p 3 _ _ (0, 0) h, cell_of_row V p 4 _ _ (0, 0) h, cell_of_row V p 5 _ _ (0, 0) h, cell_of_row V p 6 _ _ (0, 0) h, fun i => frozen_of_row V p i _ _ h⟩
theorem seven34 {V : World} {p : Nat} {c0 c1 c2 c3 c4 c5 c6 x y : Value} (h : V.heap[p]? = some (.cells #[c0, c1, c2, c3, c4, c5, c6] 32 (0, 0))) : ((V.setCell ⟨p, 3, none⟩ x).setCell ⟨p, 4, none⟩ y).heap[p]? = some (.cells #[c0, c1, c2, x, y, c5, c6] 32 (0, 0)) := by
  rw [heap_setCell_same _ p 4 _ _ _ (heap_setCell_same V p 3 _ _ x h)]; rfl
theorem seven56 {V : World} {p : Nat} {c0 c1 c2 c3 c4 c5 c6 x y : Value} (h : V.heap[p]? = some (.cells #[c0, c1, c2, c3, c4, c5, c6] 32 (0, 0))) : ((V.setCell ⟨p, 5, none⟩ x).setCell ⟨p, 6, none⟩ y).heap[p]? = some (.cells #[c0, c1, c2, c3, c4, x, y] 32 (0, 0)) := by
  rw [heap_setCell_same _ p 6 _ _ _ (heap_setCell_same V p 5 _ _ x h)]; rfl
set_option maxHeartbeats 16000000 in
set_option maxRecDepth 20000 in
theorem allB_walk (b off len cap : Nat) (q : Nat → OpQ) (w : World) (hb : b < w.heap.size) (hlen : len ≤ 9223372036854775807)
    (hc : ∀ i, i < len → w.cell? ⟨b, off + i * 7, none⟩ = some (.int .i64 (q i).K) ∧ w.cell? ⟨b, off + i * 7 + 1, none⟩ = some (.int .i64 (q i).O) ∧ w.cell? ⟨b, off + i * 7 + 2, none⟩ = some (.int .i64 (q i).N) ∧ w.cell? ⟨b, off + i * 7 + 3, none⟩ = some (.slice (q i).so (q i).sn (q i).sc) ∧ w.cell? ⟨b, off + i * 7 + 4, none⟩ = some (.slice (q i).ao (q i).an (q i).ac) ∧ w.cell? ⟨b, off + i * 7 + 5, none⟩ = some (.slice (q i).uo (q i).tn (q i).tc) ∧ w.cell? ⟨b, off + i * 7 + 6, none⟩ = some (.slice (q i).bo (q i).bn (q i).bc))
    (hr : ∀ i, i < len → OkQ w (q i)) :
    Calls Tryz.prog 3 #[.slice (some ⟨b, off, none⟩) len cap] w fun e w' => e = .returned (.bool true) ∧ Below w.heap.size w w' := by
  go_enter Tryz.func3, Tryz.ntmps3
  go_wp2_with (go_at_call 4; refine (begun7_any _).mono ?_; rintro e w1 ⟨rfl, hb1⟩)
  have a1 := box_below w1 (.cells #[.slice none 0 0, .slice none 0 0] 28)
  have a2 := box_below (w1.alloc (.cells #[.slice none 0 0, .slice none 0 0] 28)) (.cells #[.slice none 0 0, .slice none 0 0] 28)
  have n1 := allocNew w1 (.cells #[.slice none 0 0, .slice none 0 0] 28)
  have n2 := allocNew (w1.alloc (.cells #[.slice none 0 0, .slice none 0 0] 28)) (.cells #[.slice none 0 0, .slice none 0 0] 28)
  have s1 := hb1.size
  rw [World.size_alloc] at n2
  have n1' := (a2.block _ (Array.getElem?_eq_some_iff.1 n1).1).trans n1
  have aa := a1.trans (a2.mono a1.size)
  have start : Inv w ((w1.alloc (.cells #[.slice none 0 0, .slice none 0 0] 28)).alloc (.cells #[.slice none 0 0, .slice none 0 0] 28)) w1.heap.size (w1.heap.size + 1) :=
    ⟨hb1.trans (aa.mono s1), none, none, none, none, ⟨0, 0, ⟨n1', s1, Rw.nil _ _ _, Rw.nil _ _ _⟩⟩, ⟨0, 0, ⟨n2, by omega, Rw.nil _ _ _, Rw.nil _ _ _⟩⟩, ⟨by omega, fun g e => (by cases e), fun g e => (by cases e)⟩⟩
  clear a1 a2 n1 n2 n1' s1 aa hb1
  obtain ⟨hb', hhb⟩ : ∃ x, x = w1.heap.size := ⟨_, rfl⟩
  obtain ⟨gb, hgb⟩ : ∃ x, x = w1.heap.size + 1 := ⟨_, rfl⟩
  rw [← hgb, ← hhb] at start
  rw [← hgb, ← hhb]
  clear hhb hgb
  go_loopw [5] (fun i wr => ∃ k : Nat, k ≤ len ∧ i = .int .i64 (k : Nat) ∧ Inv w wr hb' gb) (fun i _ => len - (intOf i).toNat)
  case atStart => exact ⟨0, Nat.zero_le _, rfl, start⟩
  case round =>
    obtain ⟨k, hk, rfl, IV⟩ := hrel
    clear start
    by_cases hlt : k < len
    · have hck := hc k hlt
      have Ok := hr k hlt
      clear hc hr
      generalize q k = x at *
      obtain ⟨K, O, N, so, sn, sc, ao, an, ac, uo, tn, tc, bo, bn, bc, s, a, t, yb⟩ := x
      obtain ⟨h0, h1, h2, h3, h4, h5, h6⟩ := hck
      obtain ⟨rs, ra, rt, rb, ss, sa, st, sb⟩ := Ok
      dsimp only at h0 h1 h2 h3 h4 h5 h6 rs ra rt rb ss sa st sb
      have HC : Hid (∀ V, Below w.heap.size w V → V.cell? ⟨b, off + k * 7 + 3, none⟩ = some (.slice so sn sc) ∧ V.cell? ⟨b, off + k * 7 + 4, none⟩ = some (.slice ao an ac) ∧ V.cell? ⟨b, off + k * 7 + 5, none⟩ = some (.slice uo tn tc) ∧ V.cell? ⟨b, off + k * 7 + 6, none⟩ = some (.slice bo bn bc)) := fun V j => ⟨(j.cell (p := ⟨b, _, none⟩) hb).trans h3, (j.cell (p := ⟨b, _, none⟩) hb).trans h4, (j.cell (p := ⟨b, _, none⟩) hb).trans h5, (j.cell (p := ⟨b, _, none⟩) hb).trans h6⟩
      rw [← IV.bl.cell (p := ⟨b, _, none⟩) hb] at h0 h1 h2 h3 h4 h5 h6
      by_cases hK : K = 1
      · subst hK
        have kp0 := box_below wr (.cells #[.int .i64 1, .int .i64 O, .int .i64 N, .slice so sn sc, .slice ao an ac, .slice uo tn tc, .slice bo bn bc] 32)
        have nP1 := allocNew wr (.cells #[.int .i64 1, .int .i64 O, .int .i64 N, .slice so sn sc, .slice ao an ac, .slice uo tn tc, .slice bo bn bc] 32)
        have IV1 := IV.below kp0
        go_wp2
        generalize wr.alloc (.cells #[.int .i64 1, .int .i64 O, .int .i64 N, .slice so sn sc, .slice ao an ac, .slice uo tn tc, .slice bo bn bc] 32) = W1 at *
        generalize wr.heap.size = p at *
        have ALLS : ∀ V, Below W1.heap.size W1 V → V.cell? ⟨p, 1, none⟩ = some (.int .i64 O) ∧ V.cell? ⟨p, 2, none⟩ = some (.int .i64 N) ∧ Below W1.heap.size W1 V := fun V j => ⟨(j.cell (p := ⟨p, 1, none⟩) (Array.getElem?_eq_some_iff.1 nP1).1).trans (seven nP1).2.1, (j.cell (p := ⟨p, 2, none⟩) (Array.getElem?_eq_some_iff.1 nP1).1).trans (seven nP1).2.2.1, j⟩
        go_region_held3 (fun V => V.cell? ⟨p, 1, none⟩ = some (.int .i64 O) ∧ V.cell? ⟨p, 2, none⟩ = some (.int .i64 N) ∧ Below W1.heap.size W1 V) (first | exact ALLS _ (by assumption) | exact ALLS _ (Below.refl _ _).drew)
          (first
            | (go_at_call 5; have HS9 := (‹_ ∧ _ ∧ Below W1.heap.size W1 _›).2.2; (with_reducible refine (has7_any O N _).mono ?_); rintro e V1 ⟨rfl, g1⟩; have G1 := HS9.trans (g1.mono HS9.size))
            | (go_at_call 6; have HS9 := (‹_ ∧ _ ∧ Below W1.heap.size W1 _›).2.2; (with_reducible refine (refHas7 O N _).mono ?_); rintro e V2 ⟨rfl, hV2⟩; subst hV2))
        go_wp2
        go_roundw
        case rel => exact ⟨k + 1, by omega, by go_num, IV1.below (by assumption)⟩
        case measure => simp [intOf]; omega
      by_cases hK2 : K = 2
      · have hK := hK2
        obtain rfl : K = 2 := hK
        clear hK hK2
        obtain ⟨go0, go1, ho0, ho1, ⟨n0, n1, HX⟩, ⟨m0, m1, GX⟩, D⟩ := IV.ha
        have bl := IV.bl
        have kp0 := box_below wr (.cells #[.int .i64 2, .int .i64 O, .int .i64 N, .slice so sn sc, .slice ao an ac, .slice uo tn tc, .slice bo bn bc] 32)
        have K1 := bl.trans (kp0.mono bl.size)
        have nP1 := allocNew wr (.cells #[.int .i64 2, .int .i64 O, .int .i64 N, .slice so sn sc, .slice ao an ac, .slice uo tn tc, .slice bo bn bc] 32)
        obtain ⟨E, ⟨S, A⟩, hMon, hRef⟩ := bm_any O t yb
        have cMe := meant2 O N so ao uo bo sn sc an ac tn tc bn bc s a t yb E S A hRef _ (rs.below K1 (Nat.le_refl _)) (ra.below K1 (Nat.le_refl _)) (rt.below K1 (Nat.le_refl _)) (rb.below K1 (Nat.le_refl _)) ss sa st sb
        have cAs := fun V xo xc yo yc zo zc vo vc r1 r2 r3 r4 s1 s2 s3 s4 => asked2 O N xo yo zo vo sn xc an yc tn zc bn vc s a t yb E S A hMon V r1 r2 r3 r4 s1 s2 s3 s4
        clear hMon hRef
        have bB := bl.size
        go_upto_region 13 with (go_at_call 7; (with_reducible refine cMe.mono ?_); rintro e W2 ⟨o1, e1, f1', o2, e2, f2', rfl, F1, F2, k2⟩)
        obtain ⟨p, hp⟩ : ∃ p, p = wr.heap.size := ⟨_, rfl⟩
        have z1 : (wr.alloc (.cells #[.int .i64 2, .int .i64 O, .int .i64 N, .slice so sn sc, .slice ao an ac, .slice uo tn tc, .slice bo bn bc] 32)).heap.size = p + 1 := by simp [hp]
        have z2 := k2.size
        have kb3 := box_below W2 (.cells #[.slice o1 e1 f1', .slice o2 e2 f2'] 30)
        have nB := allocNew W2 (.cells #[.slice o1 e1 f1', .slice o2 e2 f2'] 30)
        have kw3 := (kp0.trans (k2.mono kp0.size)).trans (kb3.mono (Nat.le_trans kp0.size k2.size))
        have K3 := bl.trans (kw3.mono bl.size)
        have P3 := (kb3.block _ (Nat.lt_of_lt_of_le (Array.getElem?_eq_some_iff.1 nP1).1 k2.size)).trans ((k2.block _ (Array.getElem?_eq_some_iff.1 nP1).1).trans nP1)
        have FB1 := F1.below kb3 (Nat.le_refl _)
        have FB2 := F2.below kb3 (Nat.le_refl _)
        have HX3 := HX.kept (S := fun _ => False) (Kp.ofBelow kw3) (fun _ e => e.elim)
        have GX3 := GX.kept (S := fun _ => False) (Kp.ofBelow kw3) (fun _ e => e.elim)
        have hb2 : p < W2.heap.size := by omega
        have hb3 : W2.heap.size < (W2.alloc (.cells #[.slice o1 e1 f1', .slice o2 e2 f2'] 30)).heap.size := by simp
        rw [← hp] at P3
        rw [z1] at FB1 FB2
        generalize W2.alloc (.cells #[.slice o1 e1 f1', .slice o2 e2 f2'] 30) = W3 at *
        generalize W2.heap.size = pb at *
        have hS1 : ∀ j, (j = hb' ∨ some j = ownB go0 ∨ some j = ownB go1) → w.heap.size ≤ j ∧ j < p := fun j e => by rw [hp]; exact HX.lt j e
        have hS2 : ∀ j, (j = gb ∨ some j = ownB ho0 ∨ some j = ownB ho1) → w.heap.size ≤ j ∧ j < p := fun j e => by rw [hp]; exact GX.lt j e
        have hp' : w.heap.size ≤ p := by rw [hp]; exact bB
        rw [← hp]
        clear F1 F2 k2 kb3 z1 z2 nP1 kp0 K1 kw3 cMe HX GX IV bl bB hp
        obtain ⟨_, _, _, c3, c4, _, _, _⟩ := seven P3
        have lsB := Rd.lowB rs
        have laB := Rd.lowB ra
        have ltB := Rd.lowB rt
        have lbB := Rd.lowB rb
        have cL1 := lay_any hb' w.heap.size go0 go1 n0 n1 so ao sn sc an ac s a W3 HX3 (rs.below K3 (Nat.le_refl _)) ss (ra.below K3 (Nat.le_refl _)) sa lsB laB K3.size
        go_upto_region 14 with (go_at_call 8; (with_reducible refine cL1.mono ?_); rintro e W4 ⟨xo, xc, yo, yc, r0, r1, rfl, L1, kp1⟩; have P4 := (kp1.block p (by omega) (fun e => absurd (hS1 p e).2 (by omega))).trans P3; obtain ⟨_, _, _, v3, v4, _, _, fz⟩ := seven P4; have fz3 := fz 3; have fz4 := fz 4)
        have GX4 := GX3.kept kp1 (fun j s => (D.blocks HX3 GX3 j s).2.2)
        have K4 := K3.trans (kp1.below K3.size (fun j hj s => by have := (hS1 j s).1; omega))
        have P5 := seven34 (x := .slice xo sn xc) (y := .slice yo an yc) P4
        have kp5 := Kp.of (set2 W4 p 3 4 (.slice xo sn xc) (.slice yo an yc))
        have sz4 := kp1.size
        have noR : ∀ j, (some j = ownB r0 ∨ some j = ownB r1) → j < p ∨ W3.heap.size ≤ j := fun j e => by
          rcases (L1.own j e).2.2.2 with e1 | e1 | e1
          · exact .inl (hS1 j (.inr (.inl (by rw [e1]; rfl)))).2
          · exact .inl (hS1 j (.inr (.inr (by rw [e1]; rfl)))).2
          · exact .inr e1
        have L15 := L1.kept kp5 (fun j e => by
          simp only [Option.some.injEq] at e
          subst e
          exact ⟨hp', fun e => absurd (hS1 _ (.inl e)).2 (by omega), fun e => by rcases noR j (.inl (by rw [e]; rfl)) with x | x <;> omega, fun e => by rcases noR j (.inr (by rw [e]; rfl)) with x | x <;> omega⟩)
        have GX5 := GX4.kept kp5 (fun j e => by
          simp only [Option.some.injEq] at e
          subst e
          exact ⟨fun e => absurd (hS2 _ (.inl e)).2 (by omega), fun e => absurd (hS2 j (.inr (.inl (by rw [e]; rfl)))).2 (by omega), fun e => absurd (hS2 j (.inr (.inr (by rw [e]; rfl)))).2 (by omega)⟩)
        have K5 := K4.trans (kp5.below K4.size (fun j hj s => by simp only [Option.some.injEq] at s; omega))
        have KM5 : Kp W3 ((W4.setCell ⟨p, 3, none⟩ (.slice xo sn xc)).setCell ⟨p, 4, none⟩ (.slice yo an yc)) (fun j => j ≤ p ∨ W3.heap.size ≤ j) := (kp1.wide (fun j e => .inl (Nat.le_of_lt (hS1 j e).2))).trans kp5 (fun j hj e => by simp only [Option.some.injEq] at e; exact .inl (by omega))
        have sz5 := kp5.size
        generalize (W4.setCell ⟨p, 3, none⟩ (.slice xo sn xc)).setCell ⟨p, 4, none⟩ (.slice yo an yc) = W5 at *
        clear P4 v3 v4 fz fz3 fz4 cL1 GX4 K4 L1 kp1 kp5 c3 c4 HX3 P3
        obtain ⟨_, _, _, _, _, c5, c6, _⟩ := seven P5
        have hgo : ∀ j, ho0 = some ⟨j, 0, none⟩ ∨ ho1 = some ⟨j, 0, none⟩ → j < W3.heap.size := fun j e => by
          have : j < p := by
            rcases e with e | e
            · exact (hS2 j (.inr (.inl (by rw [e]; rfl)))).2
            · exact (hS2 j (.inr (.inr (by rw [e]; rfl)))).2
          omega
        have cL2 := lay_any gb w.heap.size ho0 ho1 m0 m1 uo bo tn tc bn bc t yb W5 GX5 (rt.below K5 (Nat.le_refl _)) st (rb.below K5 (Nat.le_refl _)) sb ltB lbB K5.size
        go_upto_region 15 with (go_at_call 8; (with_reducible refine cL2.mono ?_); rintro e W6 ⟨zo, zc, vo, vc, q0, q1, rfl, L2, kp2⟩; have P6 := (kp2.block p (by omega) (fun e => absurd (hS2 p e).2 (by omega))).trans P5; obtain ⟨_, _, _, _, _, v5, v6, fz⟩ := seven P6; have fz5 := fz 5; have fz6 := fz 6)
        obtain ⟨L16, D2⟩ := lay_second L15 GX5 D hgo L2 kp2
        have K6 := K5.trans (kp2.below K5.size (fun j hj s => by have := (hS2 j s).1; omega))
        have P7 := seven56 (x := .slice zo tn zc) (y := .slice vo bn vc) P6
        have kp7 := Kp.of (set2 W6 p 5 6 (.slice zo tn zc) (.slice vo bn vc))
        have sz6 := kp2.size
        have noQ : ∀ j, (some j = ownB q0 ∨ some j = ownB q1) → j < p ∨ W3.heap.size ≤ j := fun j e => by
          rcases (L2.own j e).2.2.2 with e1 | e1 | e1
          · exact .inl (hS2 j (.inr (.inl (by rw [e1]; rfl)))).2
          · exact .inl (hS2 j (.inr (.inr (by rw [e1]; rfl)))).2
          · exact .inr (by omega)
        have L17 := L16.kept kp7 (fun j e => by
          simp only [Option.some.injEq] at e
          subst e
          exact ⟨hp', fun e => absurd (hS1 _ (.inl e)).2 (by omega), fun e => by rcases noR j (.inl (by rw [e]; rfl)) with x | x <;> omega, fun e => by rcases noR j (.inr (by rw [e]; rfl)) with x | x <;> omega⟩)
        have L27 := L2.kept kp7 (fun j e => by
          simp only [Option.some.injEq] at e
          subst e
          exact ⟨hp', fun e => absurd (hS2 _ (.inl e)).2 (by omega), fun e => by rcases noQ j (.inl (by rw [e]; rfl)) with x | x <;> omega, fun e => by rcases noQ j (.inr (by rw [e]; rfl)) with x | x <;> omega⟩)
        have K7 := K6.trans (kp7.below K6.size (fun j hj s => by simp only [Option.some.injEq] at s; omega))
        have KM7 : Kp W3 ((W6.setCell ⟨p, 5, none⟩ (.slice zo tn zc)).setCell ⟨p, 6, none⟩ (.slice vo bn vc)) (fun j => j ≤ p ∨ W3.heap.size ≤ j) := (KM5.trans kp2 (fun j hj e => .inl (Nat.le_of_lt (hS2 j e).2))).trans kp7 (fun j hj e => by simp only [Option.some.injEq] at e; exact .inl (by omega))
        generalize (W6.setCell ⟨p, 5, none⟩ (.slice zo tn zc)).setCell ⟨p, 6, none⟩ (.slice vo bn vc) = W7 at *
        clear P6 v5 v6 fz fz5 fz6 cL2 K6 L2 kp2 kp7 c5 c6 GX5 GX3 L15 L16 K5 KM5 P5
        obtain ⟨d0, d1, d2, d3, d4, d5, d6, _⟩ := seven P7
        have cA := cAs W7 xo xc yo yc zo zc vo vc L17.s L17.a L27.s L27.a L17.ss L17.sa L27.ss L27.sa
        go_upto_region 16 with (go_at_call 9; (with_reducible refine cA.mono ?_); rintro e W8 ⟨u1, g1, j1, u2, g2, j2, rfl, A1, A2, k8⟩)
        have kb9 := box_below W8 (.cells #[.slice u1 g1 j1, .slice u2 g2 j2] 30)
        have nA := allocNew W8 (.cells #[.slice u1 g1 j1, .slice u2 g2 j2] 30)
        have k9 := k8.trans (kb9.mono k8.size)
        have L19 := L17.below k9
        have L29 := L27.below k9
        have K9 := K7.trans (k9.mono K7.size)
        have KM9 : Kp W3 (W8.alloc (.cells #[.slice u1 g1 j1, .slice u2 g2 j2] 30)) (fun j => j ≤ p ∨ W3.heap.size ≤ j) := KM7.trans (T := fun _ => False) (Kp.ofBelow k9) (fun j hj e => e.elim)
        have FA1 := A1.below kb9 (Nat.le_refl _)
        have FA2 := A2.below kb9 (Nat.le_refl _)
        have z8 := k8.size
        have lR : ∀ j, (some j = ownB r0 ∨ some j = ownB r1) → w.heap.size ≤ j ∧ j < W7.heap.size := fun j e => ⟨(L17.own j e).1, (L17.own j e).2.1⟩
        have lQ : ∀ j, (some j = ownB q0 ∨ some j = ownB q1) → w.heap.size ≤ j ∧ j < W7.heap.size := fun j e => ⟨(L27.own j e).1, (L27.own j e).2.1⟩
        have z9 : (W8.alloc (.cells #[.slice u1 g1 j1, .slice u2 g2 j2] 30)).heap.size = W8.heap.size + 1 := by simp
        obtain ⟨y3, y4, y5, y6⟩ := HC.out _ K9
        have cK1 := keptx_any hb' w.heap.size go0 go1 so ao sn sc an ac s a xo xc yo yc r0 r1 W3 _ L19 (rs.below K9 (Nat.le_refl _)) (ra.below K9 (Nat.le_refl _)) lsB laB
        generalize W8.alloc (.cells #[.slice u1 g1 j1, .slice u2 g2 j2] 30) = W9 at *
        generalize W8.heap.size = pa at *
        clear A1 A2 k8 kb9 k9 cA cAs L17 L27 K7 KM7 d0 d1 d2 d3 d4 d5 d6 P7
        go_upto_region 17 with (go_at_call 10; (with_reducible refine cK1.mono ?_); rintro e W10 ⟨rfl, ⟨s0, s1, HX10⟩, kp3, -, -⟩; have K10 := K9.trans (kp3.below K9.size (fun j hj s => (by have := (lR j s).1; omega))); obtain ⟨x3, x4, x5, x6⟩ := HC.out _ K10)
        have L210 := kept_first L19 L29 D2 kp3
        have KM10 := KM9.trans kp3 (fun j hj e => (noR j e).imp Nat.le_of_lt id)
        have sz9 := kp3.size
        have nA10 := (kp3.block pa (by omega) (fun e => by have := (lR pa e).2; omega)).trans nA
        have FA110 := FA1.kp kp3 (fun j h1 h2 e => by have := (lR j e).2; omega)
        have FA210 := FA2.kp kp3 (fun j h1 h2 e => by have := (lR j e).2; omega)
        have cK2 := keptx_any gb w.heap.size ho0 ho1 uo bo tn tc bn bc t yb zo zc vo vc q0 q1 W5 _ L210 (rt.below K10 (Nat.le_refl _)) (rb.below K10 (Nat.le_refl _)) ltB lbB
        clear cK1 L19 L29 nA FA1 FA2 y3 y4 y5 y6 KM9 K9
        go_upto_region 18 with (go_at_call 10; (with_reducible refine cK2.mono ?_); rintro e W11 ⟨rfl, GX11, kp4, -, -⟩)
        have HX11 := kept_second HX10 L210 D2 kp4
        have K11 := K10.trans (kp4.below K10.size (fun j hj s => by have := (lQ j s).1; omega))
        have KM11 := KM10.trans kp4 (fun j hj e => (noQ j e).imp Nat.le_of_lt id)
        have nA11 := (kp4.block pa (by omega) (fun e => by have := (lQ pa e).2; omega)).trans nA10
        have FA111 := FA110.kp kp4 (fun j h1 h2 e => by have := (lQ j e).2; omega)
        have FA211 := FA210.kp kp4 (fun j h1 h2 e => by have := (lQ j e).2; omega)
        have FB111 := FB1.kp KM11 (fun j h1 h2 e => by rcases e with e | e <;> omega)
        have FB211 := FB2.kp KM11 (fun j h1 h2 e => by rcases e with e | e <;> omega)
        have nB11 := (KM11.block pb hb3 (fun e => by rcases e with e | e <;> omega)).trans nB
        have IVn : Inv w W11 hb' gb := ⟨K11, r0, r1, q0, q1, ⟨_, _, HX11⟩, GX11, D2⟩
        obtain ⟨w0, w1', _, _⟩ := box2 nA11
        obtain ⟨w2', w3', _, _⟩ := box2 nB11
        have cE := eq_same W11 u1 u2 o1 o2 g1 j1 g2 j2 e1 f1' e2 f2' S A FA111.rd FA211.rd FB111.rd FB211.rd
        clear FA111 FA211 FB111 FB211 nA11 nB11 KM11 K11 HX11 GX11 kp4 cK2 FA110 FA210 nA10 KM10 L210 HX10 kp3 K10 FB1 FB2 nB x3 x4 x5 x6
        go_wp2_with (go_at_call 11; (with_reducible refine cE.mono ?_); rintro e W12 ⟨rfl, k12⟩)
        go_roundw
        case rel => exact ⟨k + 1, by omega, by go_num, IVn.below k12⟩
        case measure => simp [intOf]; omega
      by_cases hK3 : K = 3
      · have hK := hK3
        obtain rfl : K = 3 := hK
        clear hK hK2 hK3
        obtain ⟨go0, go1, ho0, ho1, ⟨n0, n1, HX⟩, ⟨m0, m1, GX⟩, D⟩ := IV.ha
        have bl := IV.bl
        have kp0 := box_below wr (.cells #[.int .i64 3, .int .i64 O, .int .i64 N, .slice so sn sc, .slice ao an ac, .slice uo tn tc, .slice bo bn bc] 32)
        have K1 := bl.trans (kp0.mono bl.size)
        have nP1 := allocNew wr (.cells #[.int .i64 3, .int .i64 O, .int .i64 N, .slice so sn sc, .slice ao an ac, .slice uo tn tc, .slice bo bn bc] 32)
        obtain ⟨E, ⟨S, A⟩, hMon, hRef⟩ := bd_any O s a t yb
        have cMe := meant3 O N so ao uo bo sn sc an ac tn tc bn bc s a t yb E S A hRef _ (rs.below K1 (Nat.le_refl _)) (ra.below K1 (Nat.le_refl _)) (rt.below K1 (Nat.le_refl _)) (rb.below K1 (Nat.le_refl _)) ss sa st sb
        have cAs := fun V xo xc yo yc zo zc vo vc r1 r2 r3 r4 s1 s2 s3 s4 => asked3 O N xo yo zo vo sn xc an yc tn zc bn vc s a t yb E S A hMon V r1 r2 r3 r4 s1 s2 s3 s4
        clear hMon hRef
        have bB := bl.size
        go_upto_region 13 with (go_at_call 7; (with_reducible refine cMe.mono ?_); rintro e W2 ⟨o1, e1, f1', o2, e2, f2', rfl, F1, F2, k2⟩)
        obtain ⟨p, hp⟩ : ∃ p, p = wr.heap.size := ⟨_, rfl⟩
        have z1 : (wr.alloc (.cells #[.int .i64 3, .int .i64 O, .int .i64 N, .slice so sn sc, .slice ao an ac, .slice uo tn tc, .slice bo bn bc] 32)).heap.size = p + 1 := by simp [hp]
        have z2 := k2.size
        have kb3 := box_below W2 (.cells #[.slice o1 e1 f1', .slice o2 e2 f2'] 30)
        have nB := allocNew W2 (.cells #[.slice o1 e1 f1', .slice o2 e2 f2'] 30)
        have kw3 := (kp0.trans (k2.mono kp0.size)).trans (kb3.mono (Nat.le_trans kp0.size k2.size))
        have K3 := bl.trans (kw3.mono bl.size)
        have P3 := (kb3.block _ (Nat.lt_of_lt_of_le (Array.getElem?_eq_some_iff.1 nP1).1 k2.size)).trans ((k2.block _ (Array.getElem?_eq_some_iff.1 nP1).1).trans nP1)
        have FB1 := F1.below kb3 (Nat.le_refl _)
        have FB2 := F2.below kb3 (Nat.le_refl _)
        have HX3 := HX.kept (S := fun _ => False) (Kp.ofBelow kw3) (fun _ e => e.elim)
        have GX3 := GX.kept (S := fun _ => False) (Kp.ofBelow kw3) (fun _ e => e.elim)
        have hb2 : p < W2.heap.size := by omega
        have hb3 : W2.heap.size < (W2.alloc (.cells #[.slice o1 e1 f1', .slice o2 e2 f2'] 30)).heap.size := by simp
        rw [← hp] at P3
        rw [z1] at FB1 FB2
        generalize W2.alloc (.cells #[.slice o1 e1 f1', .slice o2 e2 f2'] 30) = W3 at *
        generalize W2.heap.size = pb at *
        have hS1 : ∀ j, (j = hb' ∨ some j = ownB go0 ∨ some j = ownB go1) → w.heap.size ≤ j ∧ j < p := fun j e => by rw [hp]; exact HX.lt j e
        have hS2 : ∀ j, (j = gb ∨ some j = ownB ho0 ∨ some j = ownB ho1) → w.heap.size ≤ j ∧ j < p := fun j e => by rw [hp]; exact GX.lt j e
        have hp' : w.heap.size ≤ p := by rw [hp]; exact bB
        rw [← hp]
        clear F1 F2 k2 kb3 z1 z2 nP1 kp0 K1 kw3 cMe HX GX IV bl bB hp
        obtain ⟨_, _, _, c3, c4, _, _, _⟩ := seven P3
        have lsB := Rd.lowB rs
        have laB := Rd.lowB ra
        have ltB := Rd.lowB rt
        have lbB := Rd.lowB rb
        have cL1 := lay_any hb' w.heap.size go0 go1 n0 n1 so ao sn sc an ac s a W3 HX3 (rs.below K3 (Nat.le_refl _)) ss (ra.below K3 (Nat.le_refl _)) sa lsB laB K3.size
        go_upto_region 14 with (go_at_call 8; (with_reducible refine cL1.mono ?_); rintro e W4 ⟨xo, xc, yo, yc, r0, r1, rfl, L1, kp1⟩; have P4 := (kp1.block p (by omega) (fun e => absurd (hS1 p e).2 (by omega))).trans P3; obtain ⟨_, _, _, v3, v4, _, _, fz⟩ := seven P4; have fz3 := fz 3; have fz4 := fz 4)
        have GX4 := GX3.kept kp1 (fun j s => (D.blocks HX3 GX3 j s).2.2)
        have K4 := K3.trans (kp1.below K3.size (fun j hj s => by have := (hS1 j s).1; omega))
        have P5 := seven34 (x := .slice xo sn xc) (y := .slice yo an yc) P4
        have kp5 := Kp.of (set2 W4 p 3 4 (.slice xo sn xc) (.slice yo an yc))
        have sz4 := kp1.size
        have noR : ∀ j, (some j = ownB r0 ∨ some j = ownB r1) → j < p ∨ W3.heap.size ≤ j := fun j e => by
          rcases (L1.own j e).2.2.2 with e1 | e1 | e1
          · exact .inl (hS1 j (.inr (.inl (by rw [e1]; rfl)))).2
          · exact .inl (hS1 j (.inr (.inr (by rw [e1]; rfl)))).2
          · exact .inr e1
        have L15 := L1.kept kp5 (fun j e => by
          simp only [Option.some.injEq] at e
          subst e
          exact ⟨hp', fun e => absurd (hS1 _ (.inl e)).2 (by omega), fun e => by rcases noR j (.inl (by rw [e]; rfl)) with x | x <;> omega, fun e => by rcases noR j (.inr (by rw [e]; rfl)) with x | x <;> omega⟩)
        have GX5 := GX4.kept kp5 (fun j e => by
          simp only [Option.some.injEq] at e
          subst e
          exact ⟨fun e => absurd (hS2 _ (.inl e)).2 (by omega), fun e => absurd (hS2 j (.inr (.inl (by rw [e]; rfl)))).2 (by omega), fun e => absurd (hS2 j (.inr (.inr (by rw [e]; rfl)))).2 (by omega)⟩)
        have K5 := K4.trans (kp5.below K4.size (fun j hj s => by simp only [Option.some.injEq] at s; omega))
        have KM5 : Kp W3 ((W4.setCell ⟨p, 3, none⟩ (.slice xo sn xc)).setCell ⟨p, 4, none⟩ (.slice yo an yc)) (fun j => j ≤ p ∨ W3.heap.size ≤ j) := (kp1.wide (fun j e => .inl (Nat.le_of_lt (hS1 j e).2))).trans kp5 (fun j hj e => by simp only [Option.some.injEq] at e; exact .inl (by omega))
        have sz5 := kp5.size
        generalize (W4.setCell ⟨p, 3, none⟩ (.slice xo sn xc)).setCell ⟨p, 4, none⟩ (.slice yo an yc) = W5 at *
        clear P4 v3 v4 fz fz3 fz4 cL1 GX4 K4 L1 kp1 kp5 c3 c4 HX3 P3
        obtain ⟨_, _, _, _, _, c5, c6, _⟩ := seven P5
        have hgo : ∀ j, ho0 = some ⟨j, 0, none⟩ ∨ ho1 = some ⟨j, 0, none⟩ → j < W3.heap.size := fun j e => by
          have : j < p := by
            rcases e with e | e
            · exact (hS2 j (.inr (.inl (by rw [e]; rfl)))).2
            · exact (hS2 j (.inr (.inr (by rw [e]; rfl)))).2
          omega
        have cL2 := lay_any gb w.heap.size ho0 ho1 m0 m1 uo bo tn tc bn bc t yb W5 GX5 (rt.below K5 (Nat.le_refl _)) st (rb.below K5 (Nat.le_refl _)) sb ltB lbB K5.size
        go_upto_region 15 with (go_at_call 8; (with_reducible refine cL2.mono ?_); rintro e W6 ⟨zo, zc, vo, vc, q0, q1, rfl, L2, kp2⟩; have P6 := (kp2.block p (by omega) (fun e => absurd (hS2 p e).2 (by omega))).trans P5; obtain ⟨_, _, _, _, _, v5, v6, fz⟩ := seven P6; have fz5 := fz 5; have fz6 := fz 6)
        obtain ⟨L16, D2⟩ := lay_second L15 GX5 D hgo L2 kp2
        have K6 := K5.trans (kp2.below K5.size (fun j hj s => by have := (hS2 j s).1; omega))
        have P7 := seven56 (x := .slice zo tn zc) (y := .slice vo bn vc) P6
        have kp7 := Kp.of (set2 W6 p 5 6 (.slice zo tn zc) (.slice vo bn vc))
        have sz6 := kp2.size
        have noQ : ∀ j, (some j = ownB q0 ∨ some j = ownB q1) → j < p ∨ W3.heap.size ≤ j := fun j e => by
          rcases (L2.own j e).2.2.2 with e1 | e1 | e1
          · exact .inl (hS2 j (.inr (.inl (by rw [e1]; rfl)))).2
          · exact .inl (hS2 j (.inr (.inr (by rw [e1]; rfl)))).2
          · exact .inr (by omega)
        have L17 := L16.kept kp7 (fun j e => by
          simp only [Option.some.injEq] at e
          subst e
          exact ⟨hp', fun e => absurd (hS1 _ (.inl e)).2 (by omega), fun e => by rcases noR j (.inl (by rw [e]; rfl)) with x | x <;> omega, fun e => by rcases noR j (.inr (by rw [e]; rfl)) with x | x <;> omega⟩)
        have L27 := L2.kept kp7 (fun j e => by
          simp only [Option.some.injEq] at e
          subst e
          exact ⟨hp', fun e => absurd (hS2 _ (.inl e)).2 (by omega), fun e => by rcases noQ j (.inl (by rw [e]; rfl)) with x | x <;> omega, fun e => by rcases noQ j (.inr (by rw [e]; rfl)) with x | x <;> omega⟩)
        have K7 := K6.trans (kp7.below K6.size (fun j hj s => by simp only [Option.some.injEq] at s; omega))
        have KM7 : Kp W3 ((W6.setCell ⟨p, 5, none⟩ (.slice zo tn zc)).setCell ⟨p, 6, none⟩ (.slice vo bn vc)) (fun j => j ≤ p ∨ W3.heap.size ≤ j) := (KM5.trans kp2 (fun j hj e => .inl (Nat.le_of_lt (hS2 j e).2))).trans kp7 (fun j hj e => by simp only [Option.some.injEq] at e; exact .inl (by omega))
        generalize (W6.setCell ⟨p, 5, none⟩ (.slice zo tn zc)).setCell ⟨p, 6, none⟩ (.slice vo bn vc) = W7 at *
        clear P6 v5 v6 fz fz5 fz6 cL2 K6 L2 kp2 kp7 c5 c6 GX5 GX3 L15 L16 K5 KM5 P5
        obtain ⟨d0, d1, d2, d3, d4, d5, d6, _⟩ := seven P7
        have cA := cAs W7 xo xc yo yc zo zc vo vc L17.s L17.a L27.s L27.a L17.ss L17.sa L27.ss L27.sa
        go_upto_region 16 with (go_at_call 9; (with_reducible refine cA.mono ?_); rintro e W8 ⟨u1, g1, j1, u2, g2, j2, rfl, A1, A2, k8⟩)
        have kb9 := box_below W8 (.cells #[.slice u1 g1 j1, .slice u2 g2 j2] 30)
        have nA := allocNew W8 (.cells #[.slice u1 g1 j1, .slice u2 g2 j2] 30)
        have k9 := k8.trans (kb9.mono k8.size)
        have L19 := L17.below k9
        have L29 := L27.below k9
        have K9 := K7.trans (k9.mono K7.size)
        have KM9 : Kp W3 (W8.alloc (.cells #[.slice u1 g1 j1, .slice u2 g2 j2] 30)) (fun j => j ≤ p ∨ W3.heap.size ≤ j) := KM7.trans (T := fun _ => False) (Kp.ofBelow k9) (fun j hj e => e.elim)
        have FA1 := A1.below kb9 (Nat.le_refl _)
        have FA2 := A2.below kb9 (Nat.le_refl _)
        have z8 := k8.size
        have lR : ∀ j, (some j = ownB r0 ∨ some j = ownB r1) → w.heap.size ≤ j ∧ j < W7.heap.size := fun j e => ⟨(L17.own j e).1, (L17.own j e).2.1⟩
        have lQ : ∀ j, (some j = ownB q0 ∨ some j = ownB q1) → w.heap.size ≤ j ∧ j < W7.heap.size := fun j e => ⟨(L27.own j e).1, (L27.own j e).2.1⟩
        have z9 : (W8.alloc (.cells #[.slice u1 g1 j1, .slice u2 g2 j2] 30)).heap.size = W8.heap.size + 1 := by simp
        obtain ⟨y3, y4, y5, y6⟩ := HC.out _ K9
        have cK1 := keptx_any hb' w.heap.size go0 go1 so ao sn sc an ac s a xo xc yo yc r0 r1 W3 _ L19 (rs.below K9 (Nat.le_refl _)) (ra.below K9 (Nat.le_refl _)) lsB laB
        generalize W8.alloc (.cells #[.slice u1 g1 j1, .slice u2 g2 j2] 30) = W9 at *
        generalize W8.heap.size = pa at *
        clear A1 A2 k8 kb9 k9 cA cAs L17 L27 K7 KM7 d0 d1 d2 d3 d4 d5 d6 P7
        go_upto_region 17 with (go_at_call 10; (with_reducible refine cK1.mono ?_); rintro e W10 ⟨rfl, ⟨s0, s1, HX10⟩, kp3, -, -⟩; have K10 := K9.trans (kp3.below K9.size (fun j hj s => (by have := (lR j s).1; omega))); obtain ⟨x3, x4, x5, x6⟩ := HC.out _ K10)
        have L210 := kept_first L19 L29 D2 kp3
        have KM10 := KM9.trans kp3 (fun j hj e => (noR j e).imp Nat.le_of_lt id)
        have sz9 := kp3.size
        have nA10 := (kp3.block pa (by omega) (fun e => by have := (lR pa e).2; omega)).trans nA
        have FA110 := FA1.kp kp3 (fun j h1 h2 e => by have := (lR j e).2; omega)
        have FA210 := FA2.kp kp3 (fun j h1 h2 e => by have := (lR j e).2; omega)
        have cK2 := keptx_any gb w.heap.size ho0 ho1 uo bo tn tc bn bc t yb zo zc vo vc q0 q1 W5 _ L210 (rt.below K10 (Nat.le_refl _)) (rb.below K10 (Nat.le_refl _)) ltB lbB
        clear cK1 L19 L29 nA FA1 FA2 y3 y4 y5 y6 KM9 K9
        go_upto_region 18 with (go_at_call 10; (with_reducible refine cK2.mono ?_); rintro e W11 ⟨rfl, GX11, kp4, -, -⟩)
        have HX11 := kept_second HX10 L210 D2 kp4
        have K11 := K10.trans (kp4.below K10.size (fun j hj s => by have := (lQ j s).1; omega))
        have KM11 := KM10.trans kp4 (fun j hj e => (noQ j e).imp Nat.le_of_lt id)
        have nA11 := (kp4.block pa (by omega) (fun e => by have := (lQ pa e).2; omega)).trans nA10
        have FA111 := FA110.kp kp4 (fun j h1 h2 e => by have := (lQ j e).2; omega)
        have FA211 := FA210.kp kp4 (fun j h1 h2 e => by have := (lQ j e).2; omega)
        have FB111 := FB1.kp KM11 (fun j h1 h2 e => by rcases e with e | e <;> omega)
        have FB211 := FB2.kp KM11 (fun j h1 h2 e => by rcases e with e | e <;> omega)
        have nB11 := (KM11.block pb hb3 (fun e => by rcases e with e | e <;> omega)).trans nB
        have IVn : Inv w W11 hb' gb := ⟨K11, r0, r1, q0, q1, ⟨_, _, HX11⟩, GX11, D2⟩
        obtain ⟨w0, w1', _, _⟩ := box2 nA11
        obtain ⟨w2', w3', _, _⟩ := box2 nB11
        have cE := eq_same W11 u1 u2 o1 o2 g1 j1 g2 j2 e1 f1' e2 f2' S A FA111.rd FA211.rd FB111.rd FB211.rd
        clear FA111 FA211 FB111 FB211 nA11 nB11 KM11 K11 HX11 GX11 kp4 cK2 FA110 FA210 nA10 KM10 L210 HX10 kp3 K10 FB1 FB2 nB x3 x4 x5 x6
        go_wp2_with (go_at_call 11; (with_reducible refine cE.mono ?_); rintro e W12 ⟨rfl, k12⟩)
        go_roundw
        case rel => exact ⟨k + 1, by omega, by go_num, IVn.below k12⟩
        case measure => simp [intOf]; omega
      · have t1 : (K == 1) = false := by simpa using hK
        have t2 : (K != 2) = true := by simpa using hK2
        have t3 : (K != 3) = true := by simpa using hK3
        have kp0 := box_below wr (.cells #[.int .i64 K, .int .i64 O, .int .i64 N, .slice so sn sc, .slice ao an ac, .slice uo tn tc, .slice bo bn bc] 32)
        have IV1 := IV.below kp0
        clear hK hK2 hK3
        go_wp2
        go_roundw
        case rel => exact ⟨k + 1, by omega, by go_num, IV1⟩
        case measure => simp [intOf]; omega
    · go_wp2
      go_returns
      exact ⟨rfl, IV.bl⟩
end Go.Proofs.YtmepcenbaohcoaaGreat
