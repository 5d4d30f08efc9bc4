
/- ShapeAll: the calls that hand in two lists. -/

import Derived.Test.YtndjlbedfccnjaaQA

namespace Go.Proofs.Ytndjlbedfccnjaa

open Go.RowKit

set_option linter.unusedVariables false

/-- What a call leaves of the two hands that it was handed in. -/
structure Played2 (w w' : World) (B hb : Nat) (go ko : Option Addr) (g c g2 c2 : Nat) : Prop where
  hd : Hd w' B ⟨hb, 0, none⟩ (some ⟨g, 0, none⟩) c
  hd2 : Hd w' B ⟨hb, 1, none⟩ (some ⟨g2, 0, none⟩) c2
  ne : g ≠ g2
  fresh : go = some ⟨g, 0, none⟩ ∨ w.heap.size ≤ g
  fresh2 : ko = some ⟨g2, 0, none⟩ ∨ w.heap.size ≤ g2
  keep : Keep w w' (fun b => (b = hb ∨ some b = (Value.slice go 0 0).ownBlock) ∨ some b = (Value.slice ko 0 0).ownBlock)
  others : ∀ o, o ≠ 0 → o ≠ 1 → w'.cell? ⟨hb, o, none⟩ = w.cell? ⟨hb, o, none⟩ ∧ w'.frozen? ⟨hb, o, none⟩ = w.frozen? ⟨hb, o, none⟩

/-- Filling one hand leaves the other. -/
theorem Hd.other {w w' : World} {B hb o1 o2 : Nat} {go ko : Option Addr} {kn n : Nat} {zs : List Int} {g c : Nat} (h : Hd w B ⟨hb, o2, none⟩ ko kn) (hne : o2 ≠ o1) (k : Handed w w' B hb o1 go n zs g c) (hd : ∀ t, ko = some ⟨t, 0, none⟩ → some t ≠ (Value.slice go 0 0).ownBlock) : Hd w' B ⟨hb, o2, none⟩ ko kn := by
  obtain ⟨e1, e2⟩ := k.others o2 hne
  refine ⟨e1.trans h.cell, e2.trans h.frozen, h.base, ?_⟩
  rcases h.row with e | ⟨t, e, h1, h2, h3⟩
  · exact .inl e
  · obtain ⟨cur, x1, x2, x3⟩ := h3.blk
    exact .inr ⟨t, e, h1, h2, ⟨⟨cur, (k.keep.block t h3.lt (fun s => s.elim h2 (hd t e))).trans x1, x2, x3⟩, h3.le⟩⟩
/-- Filling the second hand leaves what is in the first. -/
theorem Handed.over {w w' w'' : World} {B hb o1 o2 : Nat} {go ko : Option Addr} {n m : Nat} {zs ys : List Int} {g c g2 c2 : Nat} (h : Handed w w' B hb o1 go n zs g c) (hne : o1 ≠ o2) (k : Handed w' w'' B hb o2 ko m ys g2 c2) (hgk : some g ≠ (Value.slice ko 0 0).ownBlock) :
    PRow w'' g c c (marked zs n) ∧ w''.cell? ⟨hb, o1, none⟩ = some (.slice (some ⟨g, 0, none⟩) c c) ∧ w''.frozen? ⟨hb, o1, none⟩ = false ∧ g ≠ g2 := by
  obtain ⟨e1, e2⟩ := k.others o1 hne
  obtain ⟨cur, x1, x2, x3⟩ := h.row.blk
  refine ⟨⟨⟨cur, (k.keep.block g h.row.lt (fun s => s.elim h.ne hgk)).trans x1, x2, x3⟩, h.row.le⟩, e1.trans h.cell, e2.trans h.frozen, ?_⟩
  rintro rfl
  rcases k.fresh with e | e
  · subst e; exact hgk rfl
  · have := h.row.lt; omega
theorem Hd.away {w : World} {B hb o2 g kn : Nat} {go ko : Option Addr} (hg : go = some ⟨g, 0, none⟩ ∨ w.heap.size ≤ g) (hk : Hd w B ⟨hb, o2, none⟩ ko kn) (hd : ∀ t, ko = some ⟨t, 0, none⟩ → some t ≠ (Value.slice go 0 0).ownBlock) : some g ≠ (Value.slice ko 0 0).ownBlock := by
  intro e
  rcases hk.row with ⟨e1, _⟩ | ⟨t, e1, _, _, hp⟩
  · subst e1; cases e
  · subst e1
    have e2 : g = t := Option.some.inj e
    subst e2
    rcases hg with e3 | e3
    · subst e3; exact hd g rfl rfl
    · have := hp.lt; omega
theorem played2_of {w w1 w2 w3 w4 w5 w6 w7 w8 : World} {B hb : Nat} {go ko : Option Addr} {gn kn n m : Nat} {zs ys : List Int} {g c g2 c2 : Nat} (hh : Hd w B ⟨hb, 0, none⟩ go gn) (hk : Hd w B ⟨hb, 1, none⟩ ko kn) (k1 : w.grownBy w1 none) (h2 : Handed w1 w2 B hb 0 go n zs g c) (h3 : Handed w2 w3 B hb 1 ko m ys g2 c2) (hgg : g ≠ g2)
    (k4 : w3.grownBy w4 none) (hp : PRow w5 g c c (fun _ => -99)) (k5 : w4.grownBy w5 (some g)) (k6 : w5.grownBy w6 none) (hp2 : PRow w7 g2 c2 c2 (fun _ => -99)) (k7 : w6.grownBy w7 (some g2)) (k8 : w7.grownBy w8 none)
    (c0 : w3.cell? ⟨hb, 0, none⟩ = some (.slice (some ⟨g, 0, none⟩) c c)) (f0 : w3.frozen? ⟨hb, 0, none⟩ = false) : Played2 w w8 B hb go ko g c g2 c2 := by
  have hl := (hh.out hb (.inl rfl)).2
  have s1 := k1.size
  have s2 := h2.keep.size
  have s3 := h3.keep.size
  have s4 := k4.size
  have s5 := k5.size
  have s6 := k6.size
  have s7 := k7.size
  have e1 : w1.heap[hb]? = w.heap[hb]? := k1.block hb hl (by simp)
  have e8 : w8.heap[hb]? = w3.heap[hb]? := (k8.block hb (by omega) (by simp)).trans ((k7.block hb (by omega) (some_ne (Ne.symm h3.ne))).trans ((k6.block hb (by omega) (by simp)).trans ((k5.block hb (by omega) (some_ne (Ne.symm h2.ne))).trans (k4.block hb (by omega) (by simp)))))
  have fr2 : ko = some ⟨g2, 0, none⟩ ∨ w.heap.size ≤ g2 := h3.fresh.imp id (fun e => by omega)
  have fr : go = some ⟨g, 0, none⟩ ∨ w.heap.size ≤ g := h2.fresh.imp id (fun e => by omega)
  refine ⟨⟨(World.cell?_of_block (a := ⟨hb, 0, none⟩) e8).trans c0, (World.frozen?_of_block (a := ⟨hb, 0, none⟩) e8).trans f0, hh.base, .inr ⟨g, rfl, h2.base, h2.ne, ?_⟩⟩, ⟨(World.cell?_of_block (a := ⟨hb, 1, none⟩) e8).trans h3.cell, (World.frozen?_of_block (a := ⟨hb, 1, none⟩) e8).trans h3.frozen, hh.base, .inr ⟨g2, rfl, h3.base, h3.ne, ?_⟩⟩, hgg, fr, fr2, ?_, fun o o0 o1 => ?_⟩
  · obtain ⟨cur, c1, c2, c3⟩ := (((hp.kept k6 (by simp)).kept k7 (some_ne hgg)).kept k8 (by simp)).blk
    exact ⟨⟨cur, c1, c2, fun k hk => by omega⟩, hp.le⟩
  · obtain ⟨cur, c1, c2, c3⟩ := (hp2.kept k8 (by simp)).blk
    exact ⟨⟨cur, c1, c2, fun k hk => by omega⟩, hp2.le⟩
  · have a1 : Keep w w1 (fun b => (b = hb ∨ some b = (Value.slice go 0 0).ownBlock) ∨ some b = (Value.slice ko 0 0).ownBlock) := widen (Keep.of k1) (fun j e => by cases e)
    have a2 := a1.trans h2.keep (fun j _ e => .inl e)
    have a3 := a2.trans h3.keep (fun j _ e => e.elim (fun e => .inl (.inl e)) .inr)
    have a4 := a3.trans (Keep.of k4) (fun j _ e => by cases e)
    have a5 := a4.trans (Keep.of k5) (fun j hj e => by
      cases e
      rcases fr with e | e
      · subst e; exact .inl (.inr rfl)
      · omega)
    have a6 := a5.trans (Keep.of k6) (fun j _ e => by cases e)
    have a7 := a6.trans (Keep.of k7) (fun j hj e => by
      cases e
      rcases fr2 with e | e
      · subst e; exact .inr rfl
      · omega)
    exact a7.trans (Keep.of k8) (fun j _ e => by cases e)
  · obtain ⟨x1, x2⟩ := h2.others o o0
    obtain ⟨x3, x4⟩ := h3.others o o1
    exact ⟨((World.cell?_of_block (a := ⟨hb, o, none⟩) e8).trans (x3.trans x1)).trans (World.cell?_of_block (a := ⟨hb, o, none⟩) e1), ((World.frozen?_of_block (a := ⟨hb, o, none⟩) e8).trans (x4.trans x2)).trans (World.frozen?_of_block (a := ⟨hb, o, none⟩) e1)⟩
theorem rd_marked {W w0 : World} {g c n : Nat} {zs : List Int} {lo : Option Addr} (h : PRow W g c c (marked zs n)) (hc : n + 2 ≤ c) (hr : Rd w0 lo n zs) : Rd W (some ⟨g, 0, none⟩) n zs :=
  ⟨hr.len, hr.room, hr.num, fun _ => ⟨g, 0, rfl, h.lt, fun k hk => by
    have := h.cell (k := k) (by omega)
    rw [Nat.zero_add, this]
    unfold marked; rw [if_pos hk]⟩⟩
set_option maxHeartbeats 16000000 in
set_option maxRecDepth 20000 in
theorem plays_3 (hb B : Nat) (go ko : Option Addr) (gn kn : Nat) (so to' mo : Option Addr) (sn sc tn tc mn mc : Nat) (N : Int) (zs ys : List Int) (w : World) (hh : Hd w B ⟨hb, 0, none⟩ go gn) (hk : Hd w B ⟨hb, 1, none⟩ ko kn) (hdis : ∀ t, ko = some ⟨t, 0, none⟩ → some t ≠ (Value.slice go 0 0).ownBlock)
    (h : Rd w so sn zs) (hs : Sl so sn sc) (hlb : 0 < sn → ∀ b off, so = some ⟨b, off, none⟩ → b < B) (hsm : sn ≤ 100000000) (h' : Rd w to' tn ys) (hs' : Sl to' tn tc) (hlb' : 0 < tn → ∀ b off, to' = some ⟨b, off, none⟩ → b < B) (hsm' : tn ≤ 100000000) (hB : B ≤ w.heap.size) :
    Calls Try.prog 7 #[.pointer (some ⟨hb, 0, none⟩), .agg #[.int .i64 3, .slice so sn sc, .slice to' tn tc, .int .i64 N, .slice mo mn mc]] w fun e w' => e = .returned (.bool true) ∧ ∃ g c g2 c2, Played2 w w' B hb go ko g c g2 c2 := by
  have k0 := box_below w (.cells #[.int .i64 3, .slice so sn sc, .slice to' tn tc, .int .i64 N, .slice mo mn mc] 37)
  have z0 := allocNew w (.cells #[.int .i64 3, .slice so sn sc, .slice to' tn tc, .int .i64 N, .slice mo mn mc] 37)
  have hs0 : (w.alloc (.cells #[.int .i64 3, .slice so sn sc, .slice to' tn tc, .int .i64 N, .slice mo mn mc] 37)).heap.size = w.heap.size + 1 := World.size_alloc _ _
  have Dr : Below w.heap.size w (w.alloc (.cells #[.int .i64 3, .slice so sn sc, .slice to' tn tc, .int .i64 N, .slice mo mn mc] 37)).drew := k0.drew
  have hout := hh.out
  have hout2 := hk.out
  have hhd : Hd (w.alloc (.cells #[.int .i64 3, .slice so sn sc, .slice to' tn tc, .int .i64 N, .slice mo mn mc] 37)).drew B ⟨hb, 0, none⟩ go gn := hh.kept (Keep.of (grownN Dr)) (fun j e => by cases e)
  have hkd : Hd (w.alloc (.cells #[.int .i64 3, .slice so sn sc, .slice to' tn tc, .int .i64 N, .slice mo mn mc] 37)).drew B ⟨hb, 1, none⟩ ko kn := hk.kept (Keep.of (grownN Dr)) (fun j e => by cases e)
  have hbB : B ≤ hb := hh.base
  have hlo : 0 < sn → ∀ b off, so = some ⟨b, off, none⟩ → b ≠ hb := fun h0 b off e => by have := hlb h0 b off e; omega
  have hlo' : 0 < tn → ∀ b off, to' = some ⟨b, off, none⟩ → b ≠ hb := fun h0 b off e => by have := hlb' h0 b off e; omega
  have cI := ints_any hb 0 B go gn so sn sc zs (w.alloc (.cells #[.int .i64 3, .slice so sn sc, .slice to' tn tc, .int .i64 N, .slice mo mn mc] 37)).drew hhd (h.below Dr (Nat.le_refl _)) hs hlo hsm (by show B ≤ (w.alloc (.cells #[.int .i64 3, .slice so sn sc, .slice to' tn tc, .int .i64 N, .slice mo mn mc] 37)).heap.size; omega)
  obtain ⟨y0, y1, y2, y3, y4⟩ := box5 z0
  go_enter Try.func7, Try.ntmps7
  go_upto_region 10 with fail
  have HZ : Hid ((w.alloc (.cells #[.int .i64 3, .slice so sn sc, .slice to' tn tc, .int .i64 N, .slice mo mn mc] 37)).heap[w.heap.size]? = some (.cells #[.int .i64 3, .slice so sn sc, .slice to' tn tc, .int .i64 N, .slice mo mn mc] 37 (0, 0))) := z0
  have HI : Hid (w.grownBy (w.alloc (.cells #[.int .i64 3, .slice so sn sc, .slice to' tn tc, .int .i64 N, .slice mo mn mc] 37)).drew none ∧ Hd (w.alloc (.cells #[.int .i64 3, .slice so sn sc, .slice to' tn tc, .int .i64 N, .slice mo mn mc] 37)).drew B ⟨hb, 0, none⟩ go gn ∧ Hd (w.alloc (.cells #[.int .i64 3, .slice so sn sc, .slice to' tn tc, .int .i64 N, .slice mo mn mc] 37)).drew B ⟨hb, 1, none⟩ ko kn) := ⟨grownN Dr, hhd, hkd⟩
  have HB : Hid (B ≤ (w.alloc (.cells #[.int .i64 3, .slice so sn sc, .slice to' tn tc, .int .i64 N, .slice mo mn mc] 37)).drew.heap.size) := Nat.le_trans hB Dr.size
  have HS0 : Hid ((w.alloc (.cells #[.int .i64 3, .slice so sn sc, .slice to' tn tc, .int .i64 N, .slice mo mn mc] 37)).drew.heap.size = w.heap.size + 1) := hs0
  have hr1 := h.below Dr (Nat.le_refl _)
  have hr2 := h'.below Dr (Nat.le_refl _)
  have HOUT : Hid ((∀ j, (j = hb ∨ some j = (Value.slice go 0 0).ownBlock) → B ≤ j ∧ j < w.heap.size) ∧ (∀ j, (j = hb ∨ some j = (Value.slice ko 0 0).ownBlock) → B ≤ j ∧ j < w.heap.size)) := ⟨hout, hout2⟩
  have HI2 : Hid (Hd w B ⟨hb, 0, none⟩ go gn ∧ Hd w B ⟨hb, 1, none⟩ ko kn) := ⟨hh, hk⟩
  have HDIS : Hid (∀ t, ko = some ⟨t, 0, none⟩ → some t ≠ (Value.slice go 0 0).ownBlock) := hdis
  clear z0 hhd hkd hh hk h h' Dr k0 hs0 hout hout2 hdis
  generalize w.alloc (.cells #[.int .i64 3, .slice so sn sc, .slice to' tn tc, .int .i64 N, .slice mo mn mc] 37) = W1 at *
  go_region_held3 (fun V => V.cell? ⟨w.heap.size, 1, none⟩ = some (.slice so sn sc) ∧ V.cell? ⟨w.heap.size, 2, none⟩ = some (.slice to' tn tc)) (first | assumption | exact ⟨y1, y2⟩)
    (first
      | (go_at_call 18; (with_reducible refine cI.mono ?_); rintro e w2 ⟨g, c, rfl, H2⟩; have hR2 := H2.rd hr1; have ZW2 := (H2.keep.block w.heap.size (by have := HS0.out; omega) (fun e => by have := (HOUT.out.1 _ e).2; omega)).trans HZ.out; obtain ⟨x0, x1, x2, x3, x4⟩ := box5 ZW2; have S2 : w2.cell? ⟨w.heap.size, 1, none⟩ = some (.slice so sn sc) ∧ w2.cell? ⟨w.heap.size, 2, none⟩ = some (.slice to' tn tc) := ⟨x1, x2⟩; have K2 := H2.keep.below HB.out (fun j hj e => by have := (HOUT.out.1 j e).1; omega); have cJ := ints_any hb 1 B ko kn to' tn tc ys w2 (HI.out.2.2.other (by decide) H2 HDIS.out) (hr2.lowZ hlb' K2) hs' hlo' hsm' (Nat.le_trans HB.out K2.size))
      | (go_at_call 18; (with_reducible refine cJ.mono ?_); rintro e w3 ⟨g2, c2, rfl, H3⟩; have ZW3 := (H3.keep.block w.heap.size (by have := HS0.out; have := H2.keep.size; omega) (fun e => by have := (HOUT.out.2 _ e).2; omega)).trans ZW2; obtain ⟨t0, t1, t2, t3, t4⟩ := box5 ZW3; have S3 : w3.cell? ⟨w.heap.size, 1, none⟩ = some (.slice so sn sc) ∧ w3.cell? ⟨w.heap.size, 2, none⟩ = some (.slice to' tn tc) := ⟨t1, t2⟩; obtain ⟨p3, p4, p5, p6⟩ := H2.over (by decide) H3 (HI.out.2.2.away H2.fresh HDIS.out); have hR3 := rd_marked p3 H2.room hr1; have hR4 := H3.rd (hr2.lowZ hlb' K2))
      | (go_at_call 9; (with_reducible refine (place_any _ _ _ _ _ _ _ _ _ hR3 hR4).mono ?_); rintro e w9 ⟨rfl, hw9⟩; rw [hw9]; clear hw9 w9)
      )
  have HE2 : Hid (Handed W1.drew w2 B hb 0 go sn zs g c) := H2
  have HE3 : Hid (Handed w2 w3 B hb 1 ko tn ys g2 c2) := H3
  have K3 : Below B W1.drew w3 := K2.trans (H3.keep.below (Nat.le_trans HB.out K2.size) (fun j hj e => by have := (HOUT.out.2 j e).1; omega))
  have r3 := hr1.lowZ hlb K3
  have r4 := hr2.lowZ hlb' K3
  have hbg : 0 < sn → ∀ b off, so = some ⟨b, off, none⟩ → b ≠ g := fun h0 b off e => by have := hlb h0 b off e; have := H2.base; omega
  have hbg1 : 0 < tn → ∀ b off, to' = some ⟨b, off, none⟩ → b ≠ g := fun h0 b off e => by have := hlb' h0 b off e; have := H2.base; omega
  have hbg2 : 0 < tn → ∀ b off, to' = some ⟨b, off, none⟩ → b ≠ g2 := fun h0 b off e => by have := hlb' h0 b off e; have := H3.base; omega
  have hw0g : w.heap.size ≠ g := fun e => by
    rcases H2.fresh with e1 | e1
    · have := (HOUT.out.1 g (.inr (by rw [e1]; rfl))).2; omega
    · have := HS0.out; omega
  go_upto_region 12 with (go_at_call 22; (with_reducible refine (refPlace_any _ _ _ _ _ _ _ _ _ r3 r4).mono ?_); rintro e w5 ⟨rfl, q5, hq5⟩; have B5 : Below w3.heap.size w3 w5 := (by rw [hq5]; exact ⟨rfl, rfl, rfl, Nat.le_refl _, fun _ _ => rfl⟩); clear hq5)
  have k4 := grownN B5.drew
  have cK := kept_any hb 0 g c so sn sc zs w5.drew ((World.cell?_of_block (a := ⟨hb, 0, none⟩) (k4.block hb (World.block_lt_of_cell? w3 _ p4) (by simp))).trans p4) HE2.out.ne (p3.kept k4 (by simp)) (by have := HE2.out.room; omega) (r3.below B5.drew (Nat.le_refl _)) hbg
  obtain ⟨v0, v1, v2, v3, v4⟩ := box5 ((k4.block w.heap.size (Array.getElem?_eq_some_iff.1 ZW3).1 (by simp)).trans ZW3)
  go_region_held3 (fun V => V.cell? ⟨w.heap.size, 1, none⟩ = some (.slice so sn sc) ∧ V.cell? ⟨w.heap.size, 2, none⟩ = some (.slice to' tn tc)) (first | assumption | exact ⟨v1, v2⟩)
    (first
      | (go_at_call 19; (with_reducible refine cK.mono ?_); rintro e w6 ⟨rfl, hp6, hg6⟩; have S6 : w6.cell? ⟨w.heap.size, 1, none⟩ = some (.slice so sn sc) ∧ w6.cell? ⟨w.heap.size, 2, none⟩ = some (.slice to' tn tc) := ⟨hg6.cell v1 (some_ne hw0g), hg6.cell v2 (some_ne hw0g)⟩))
  have hw0g2 : w.heap.size ≠ g2 := fun e => by
    rcases HE3.out.fresh with e1 | e1
    · have := (HOUT.out.2 g2 (.inr (by rw [e1]; rfl))).2; omega
    · have := HS0.out; have := HE2.out.keep.size; omega
  have k6 : w6.grownBy w6.drew none := ⟨rfl, rfl, rfl, Nat.le_refl _, fun _ _ _ => rfl⟩
  have hbl : hb < w3.heap.size := World.block_lt_of_cell? w3 _ p4
  have e56 : w6.drew.heap[hb]? = w3.heap[hb]? := (hg6.block hb (Nat.lt_of_lt_of_le hbl k4.size) (some_ne (Ne.symm HE2.out.ne))).trans (k4.block hb hbl (by simp))
  have cK2 := kept_any hb 1 g2 c2 to' tn tc ys w6.drew ((World.cell?_of_block (a := ⟨hb, 1, none⟩) e56).trans HE3.out.cell) HE3.out.ne (((HE3.out.row.kept k4 (by simp)).kept hg6 (some_ne (Ne.symm p6))).kept k6 (by simp)) (by have := HE3.out.room; omega) (((r4.below B5.drew (Nat.le_refl _)).kept0 hg6 (fun h0 b off e => some_ne (hbg1 h0 b off e))).kept0 k6 (fun _ _ _ _ => by simp)) hbg2
  go_upto_region 13 with fail
  go_region_held3 (fun V => V.cell? ⟨w.heap.size, 2, none⟩ = some (.slice to' tn tc)) (first | assumption | exact S6.2)
    (first
      | (go_at_call 19; (with_reducible refine cK2.mono ?_); rintro e w7 ⟨rfl, hp7, hg7⟩; have S7 : w7.cell? ⟨w.heap.size, 2, none⟩ = some (.slice to' tn tc) := hg7.cell S6.2 (some_ne hw0g2)))
  have HP2 : Hid (Played2 w w7 B hb go ko g c g2 c2) := played2_of HI2.out.1 HI2.out.2 HI.out.1 HE2.out HE3.out p6 k4 hp6 hg6 k6 hp7 hg7 ⟨rfl, rfl, rfl, Nat.le_refl _, fun _ _ _ => rfl⟩ p4 p5
  go_wp2
  go_ret
  exact ⟨rfl, g, c, g2, c2, HP2.out⟩
set_option maxHeartbeats 16000000 in
set_option maxRecDepth 20000 in
theorem plays_6 (hb B : Nat) (go ko : Option Addr) (gn kn : Nat) (so to' mo : Option Addr) (sn sc tn tc mn mc : Nat) (N : Int) (zs ys : List Int) (w : World) (hh : Hd w B ⟨hb, 0, none⟩ go gn) (hk : Hd w B ⟨hb, 1, none⟩ ko kn) (hdis : ∀ t, ko = some ⟨t, 0, none⟩ → some t ≠ (Value.slice go 0 0).ownBlock)
    (h : Rd w so sn zs) (hs : Sl so sn sc) (hlb : 0 < sn → ∀ b off, so = some ⟨b, off, none⟩ → b < B) (hsm : sn ≤ 100000000) (h' : Rd w to' tn ys) (hs' : Sl to' tn tc) (hlb' : 0 < tn → ∀ b off, to' = some ⟨b, off, none⟩ → b < B) (hsm' : tn ≤ 100000000) (hB : B ≤ w.heap.size) :
    Calls Try.prog 7 #[.pointer (some ⟨hb, 0, none⟩), .agg #[.int .i64 6, .slice so sn sc, .slice to' tn tc, .int .i64 N, .slice mo mn mc]] w fun e w' => e = .returned (.bool true) ∧ ∃ g c g2 c2, Played2 w w' B hb go ko g c g2 c2 := by
  have k0 := box_below w (.cells #[.int .i64 6, .slice so sn sc, .slice to' tn tc, .int .i64 N, .slice mo mn mc] 37)
  have z0 := allocNew w (.cells #[.int .i64 6, .slice so sn sc, .slice to' tn tc, .int .i64 N, .slice mo mn mc] 37)
  have hs0 : (w.alloc (.cells #[.int .i64 6, .slice so sn sc, .slice to' tn tc, .int .i64 N, .slice mo mn mc] 37)).heap.size = w.heap.size + 1 := World.size_alloc _ _
  have Dr : Below w.heap.size w (w.alloc (.cells #[.int .i64 6, .slice so sn sc, .slice to' tn tc, .int .i64 N, .slice mo mn mc] 37)).drew := k0.drew
  have hout := hh.out
  have hout2 := hk.out
  have hhd : Hd (w.alloc (.cells #[.int .i64 6, .slice so sn sc, .slice to' tn tc, .int .i64 N, .slice mo mn mc] 37)).drew B ⟨hb, 0, none⟩ go gn := hh.kept (Keep.of (grownN Dr)) (fun j e => by cases e)
  have hkd : Hd (w.alloc (.cells #[.int .i64 6, .slice so sn sc, .slice to' tn tc, .int .i64 N, .slice mo mn mc] 37)).drew B ⟨hb, 1, none⟩ ko kn := hk.kept (Keep.of (grownN Dr)) (fun j e => by cases e)
  have hbB : B ≤ hb := hh.base
  have hlo : 0 < sn → ∀ b off, so = some ⟨b, off, none⟩ → b ≠ hb := fun h0 b off e => by have := hlb h0 b off e; omega
  have hlo' : 0 < tn → ∀ b off, to' = some ⟨b, off, none⟩ → b ≠ hb := fun h0 b off e => by have := hlb' h0 b off e; omega
  have cI := ints_any hb 0 B go gn so sn sc zs (w.alloc (.cells #[.int .i64 6, .slice so sn sc, .slice to' tn tc, .int .i64 N, .slice mo mn mc] 37)).drew hhd (h.below Dr (Nat.le_refl _)) hs hlo hsm (by show B ≤ (w.alloc (.cells #[.int .i64 6, .slice so sn sc, .slice to' tn tc, .int .i64 N, .slice mo mn mc] 37)).heap.size; omega)
  obtain ⟨y0, y1, y2, y3, y4⟩ := box5 z0
  go_enter Try.func7, Try.ntmps7
  go_upto_region 24 with fail
  have HZ : Hid ((w.alloc (.cells #[.int .i64 6, .slice so sn sc, .slice to' tn tc, .int .i64 N, .slice mo mn mc] 37)).heap[w.heap.size]? = some (.cells #[.int .i64 6, .slice so sn sc, .slice to' tn tc, .int .i64 N, .slice mo mn mc] 37 (0, 0))) := z0
  have HI : Hid (w.grownBy (w.alloc (.cells #[.int .i64 6, .slice so sn sc, .slice to' tn tc, .int .i64 N, .slice mo mn mc] 37)).drew none ∧ Hd (w.alloc (.cells #[.int .i64 6, .slice so sn sc, .slice to' tn tc, .int .i64 N, .slice mo mn mc] 37)).drew B ⟨hb, 0, none⟩ go gn ∧ Hd (w.alloc (.cells #[.int .i64 6, .slice so sn sc, .slice to' tn tc, .int .i64 N, .slice mo mn mc] 37)).drew B ⟨hb, 1, none⟩ ko kn) := ⟨grownN Dr, hhd, hkd⟩
  have HB : Hid (B ≤ (w.alloc (.cells #[.int .i64 6, .slice so sn sc, .slice to' tn tc, .int .i64 N, .slice mo mn mc] 37)).drew.heap.size) := Nat.le_trans hB Dr.size
  have HS0 : Hid ((w.alloc (.cells #[.int .i64 6, .slice so sn sc, .slice to' tn tc, .int .i64 N, .slice mo mn mc] 37)).drew.heap.size = w.heap.size + 1) := hs0
  have hr1 := h.below Dr (Nat.le_refl _)
  have hr2 := h'.below Dr (Nat.le_refl _)
  have HOUT : Hid ((∀ j, (j = hb ∨ some j = (Value.slice go 0 0).ownBlock) → B ≤ j ∧ j < w.heap.size) ∧ (∀ j, (j = hb ∨ some j = (Value.slice ko 0 0).ownBlock) → B ≤ j ∧ j < w.heap.size)) := ⟨hout, hout2⟩
  have HI2 : Hid (Hd w B ⟨hb, 0, none⟩ go gn ∧ Hd w B ⟨hb, 1, none⟩ ko kn) := ⟨hh, hk⟩
  have HDIS : Hid (∀ t, ko = some ⟨t, 0, none⟩ → some t ≠ (Value.slice go 0 0).ownBlock) := hdis
  clear z0 hhd hkd hh hk h h' Dr k0 hs0 hout hout2 hdis
  generalize w.alloc (.cells #[.int .i64 6, .slice so sn sc, .slice to' tn tc, .int .i64 N, .slice mo mn mc] 37) = W1 at *
  go_region_held3 (fun V => V.cell? ⟨w.heap.size, 1, none⟩ = some (.slice so sn sc) ∧ V.cell? ⟨w.heap.size, 2, none⟩ = some (.slice to' tn tc)) (first | assumption | exact ⟨y1, y2⟩)
    (first
      | (go_at_call 18; (with_reducible refine cI.mono ?_); rintro e w2 ⟨g, c, rfl, H2⟩; have hR2 := H2.rd hr1; have ZW2 := (H2.keep.block w.heap.size (by have := HS0.out; omega) (fun e => by have := (HOUT.out.1 _ e).2; omega)).trans HZ.out; obtain ⟨x0, x1, x2, x3, x4⟩ := box5 ZW2; have S2 : w2.cell? ⟨w.heap.size, 1, none⟩ = some (.slice so sn sc) ∧ w2.cell? ⟨w.heap.size, 2, none⟩ = some (.slice to' tn tc) := ⟨x1, x2⟩; have K2 := H2.keep.below HB.out (fun j hj e => by have := (HOUT.out.1 j e).1; omega); have cJ := ints_any hb 1 B ko kn to' tn tc ys w2 (HI.out.2.2.other (by decide) H2 HDIS.out) (hr2.lowZ hlb' K2) hs' hlo' hsm' (Nat.le_trans HB.out K2.size))
      | (go_at_call 18; (with_reducible refine cJ.mono ?_); rintro e w3 ⟨g2, c2, rfl, H3⟩; have ZW3 := (H3.keep.block w.heap.size (by have := HS0.out; have := H2.keep.size; omega) (fun e => by have := (HOUT.out.2 _ e).2; omega)).trans ZW2; obtain ⟨t0, t1, t2, t3, t4⟩ := box5 ZW3; have S3 : w3.cell? ⟨w.heap.size, 1, none⟩ = some (.slice so sn sc) ∧ w3.cell? ⟨w.heap.size, 2, none⟩ = some (.slice to' tn tc) := ⟨t1, t2⟩; obtain ⟨p3, p4, p5, p6⟩ := H2.over (by decide) H3 (HI.out.2.2.away H2.fresh HDIS.out); have hR3 := rd_marked p3 H2.room hr1; have hR4 := H3.rd (hr2.lowZ hlb' K2))
      | (go_at_call 12; (with_reducible refine (agree_any _ _ _ _ _ _ _ _ _ hR3 hR4 ⟨fun e => (by cases e), by have := H2.room; omega, H2.row.le⟩ ⟨fun e => (by cases e), by have := H3.room; omega, H3.row.le⟩).mono ?_); rintro e w4 ⟨co, kk, cc, rfl, F4, B4⟩; have ZW4 := (B4.block w.heap.size (Array.getElem?_eq_some_iff.1 ZW3).1).trans ZW3; obtain ⟨s0, s1, s2, s3, s4⟩ := box5 ZW4; have S4 : w4.cell? ⟨w.heap.size, 1, none⟩ = some (.slice so sn sc) ∧ w4.cell? ⟨w.heap.size, 2, none⟩ = some (.slice to' tn tc) := ⟨s1, s2⟩)
      )
  have HE2 : Hid (Handed W1.drew w2 B hb 0 go sn zs g c) := H2
  have HE3 : Hid (Handed w2 w3 B hb 1 ko tn ys g2 c2) := H3
  have K3 : Below B W1.drew w3 := K2.trans (H3.keep.below (Nat.le_trans HB.out K2.size) (fun j hj e => by have := (HOUT.out.2 j e).1; omega))
  have r3 := hr1.lowZ hlb K3
  have r4 := hr2.lowZ hlb' K3
  have hbg : 0 < sn → ∀ b off, so = some ⟨b, off, none⟩ → b ≠ g := fun h0 b off e => by have := hlb h0 b off e; have := H2.base; omega
  have hbg1 : 0 < tn → ∀ b off, to' = some ⟨b, off, none⟩ → b ≠ g := fun h0 b off e => by have := hlb' h0 b off e; have := H2.base; omega
  have hbg2 : 0 < tn → ∀ b off, to' = some ⟨b, off, none⟩ → b ≠ g2 := fun h0 b off e => by have := hlb' h0 b off e; have := H3.base; omega
  have r3 := r3.below B4 (Nat.le_refl _)
  have r4 := r4.below B4 (Nat.le_refl _)
  have hco := F4.ne H3.row.lt
  have hcg : ∀ b off, co = some ⟨b, off, none⟩ → b ≠ g := F4.ne p3.lt
  have hw0g : w.heap.size ≠ g := fun e => by
    rcases H2.fresh with e1 | e1
    · have := (HOUT.out.1 g (.inr (by rw [e1]; rfl))).2; omega
    · have := HS0.out; omega
  go_upto_region 26 with (go_at_call 25; (with_reducible refine (refAgree_any _ _ _ _ _ _ _ _ _ r3 r4).mono ?_); rintro e w5 ⟨co5, kk5, cc5, rfl, F5, B5'⟩; have B5 : Below w3.heap.size w3 w5 := B4.trans (B5'.mono B4.size); have hco5 := F5.ne (Nat.lt_of_lt_of_le H3.row.lt B4.size); have hcg5 := F5.ne (Nat.lt_of_lt_of_le p3.lt B4.size))
  have k4 := grownN B5.drew
  have cK := kept_any hb 0 g c so sn sc zs w5.drew ((World.cell?_of_block (a := ⟨hb, 0, none⟩) (k4.block hb (World.block_lt_of_cell? w3 _ p4) (by simp))).trans p4) HE2.out.ne (p3.kept k4 (by simp)) (by have := HE2.out.room; omega) (r3.below B5'.drew (Nat.le_refl _)) hbg
  obtain ⟨v0, v1, v2, v3, v4⟩ := box5 ((k4.block w.heap.size (Array.getElem?_eq_some_iff.1 ZW3).1 (by simp)).trans ZW3)
  go_region_held3 (fun V => V.cell? ⟨w.heap.size, 1, none⟩ = some (.slice so sn sc) ∧ V.cell? ⟨w.heap.size, 2, none⟩ = some (.slice to' tn tc)) (first | assumption | exact ⟨v1, v2⟩)
    (first
      | (go_at_call 19; (with_reducible refine cK.mono ?_); rintro e w6 ⟨rfl, hp6, hg6⟩; have S6 : w6.cell? ⟨w.heap.size, 1, none⟩ = some (.slice so sn sc) ∧ w6.cell? ⟨w.heap.size, 2, none⟩ = some (.slice to' tn tc) := ⟨hg6.cell v1 (some_ne hw0g), hg6.cell v2 (some_ne hw0g)⟩))
  have hw0g2 : w.heap.size ≠ g2 := fun e => by
    rcases HE3.out.fresh with e1 | e1
    · have := (HOUT.out.2 g2 (.inr (by rw [e1]; rfl))).2; omega
    · have := HS0.out; have := HE2.out.keep.size; omega
  have k6 : w6.grownBy w6.drew none := ⟨rfl, rfl, rfl, Nat.le_refl _, fun _ _ _ => rfl⟩
  have hbl : hb < w3.heap.size := World.block_lt_of_cell? w3 _ p4
  have e56 : w6.drew.heap[hb]? = w3.heap[hb]? := (hg6.block hb (Nat.lt_of_lt_of_le hbl k4.size) (some_ne (Ne.symm HE2.out.ne))).trans (k4.block hb hbl (by simp))
  have cK2 := kept_any hb 1 g2 c2 to' tn tc ys w6.drew ((World.cell?_of_block (a := ⟨hb, 1, none⟩) e56).trans HE3.out.cell) HE3.out.ne (((HE3.out.row.kept k4 (by simp)).kept hg6 (some_ne (Ne.symm p6))).kept k6 (by simp)) (by have := HE3.out.room; omega) (((r4.below B5'.drew (Nat.le_refl _)).kept0 hg6 (fun h0 b off e => some_ne (hbg1 h0 b off e))).kept0 k6 (fun _ _ _ _ => by simp)) hbg2
  go_upto_region 27 with fail
  go_region_held3 (fun V => V.cell? ⟨w.heap.size, 2, none⟩ = some (.slice to' tn tc)) (first | assumption | exact S6.2)
    (first
      | (go_at_call 19; (with_reducible refine cK2.mono ?_); rintro e w7 ⟨rfl, hp7, hg7⟩; have S7 : w7.cell? ⟨w.heap.size, 2, none⟩ = some (.slice to' tn tc) := hg7.cell S6.2 (some_ne hw0g2)))
  have HP2 : Hid (∀ V, w7.grownBy V none → Played2 w V B hb go ko g c g2 c2) := fun V kV => played2_of HI2.out.1 HI2.out.2 HI.out.1 HE2.out HE3.out p6 k4 hp6 hg6 k6 hp7 hg7 kV p4 p5
  have dd := ((Below.refl w5.heap.size w5).drew)
  have R5 := ((((F4.rd.below B5' (Nat.le_refl _)).below dd (Nat.le_refl _)).kept0 hg6 (fun h0 b off e => some_ne (hcg b off e))).kept0 k6 (fun _ _ _ _ => by simp)).kept0 hg7 (fun h0 b off e => some_ne (hco b off e))
  have R6 := (((F5.rd.below dd (Nat.le_refl _)).kept0 hg6 (fun h0 b off e => some_ne (hcg5 b off e))).kept0 k6 (fun _ _ _ _ => by simp)).kept0 hg7 (fun h0 b off e => some_ne (hco5 b off e))
  go_wp2_with (go_at_call 15; (with_reducible refine (eqInts_any _ _ _ _ _ _ _ _ _ R5 R6).mono ?_); rintro e w8 ⟨rfl, q8, hq8⟩; rw [eqB_self])
  go_ret
  exact ⟨rfl, g, c, g2, c2, HP2.out _ ⟨rfl, rfl, rfl, Nat.le_refl _, fun _ _ _ => rfl⟩⟩
end Go.Proofs.Ytndjlbedfccnjaa
