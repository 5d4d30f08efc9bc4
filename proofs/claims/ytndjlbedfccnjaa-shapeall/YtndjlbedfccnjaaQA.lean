
/- ShapeAll: the calls that hand in one list. -/

import Derived.Test.YtndjlbedfccnjaaPlay1

import Derived.Deep.DeepCutAuto

import Derived.Deep.RegionHeld3

namespace Go.Proofs.Ytndjlbedfccnjaa

open Go.RowKit

set_option linter.unusedVariables false

theorem box_below (w : World) (o : Obj) : Below w.heap.size w (w.alloc o) := (Below.refl _ w).alloc (Nat.le_refl _) o
theorem allocNew (w : World) (o : Obj) : (w.alloc o).heap[w.heap.size]? = some o := by
  unfold World.alloc
  simp

theorem box5 {W : World} {g : Nat} {a b c d e : Value} {t : TypeId} (h : W.heap[g]? = some (.cells #[a, b, c, d, e] t (0, 0))) :
    (W.cell? ⟨g, 0, none⟩ = some a ∧ W.cell? ⟨g, 1, none⟩ = some b ∧ W.cell? ⟨g, 2, none⟩ = some c ∧ W.cell? ⟨g, 3, none⟩ = some d ∧ W.cell? ⟨g, 4, none⟩ = some e) :=
  ⟨(cell_of_row W g 0 _ t (0, 0) h).trans rfl, (cell_of_row W g 1 _ t (0, 0) h).trans rfl, (cell_of_row W g 2 _ t (0, 0) h).trans rfl, (cell_of_row W g 3 _ t (0, 0) h).trans rfl, (cell_of_row W g 4 _ t (0, 0) h).trans rfl⟩
theorem Fr.ne {w : World} {B : Nat} {ao : Option Addr} {n cap : Nat} {zs : List Int} (h : Fr w B ao n cap zs) {g : Nat} (hg : g < B) : ∀ b off, ao = some ⟨b, off, none⟩ → b ≠ g := by
  rintro b off rfl e
  rcases h.own.2 with ⟨e1, _⟩ | ⟨g', c', cur, e1, hb, _⟩
  · cases e1
  · cases e1; omega
theorem eqB_self (l : List Int) : eqB l l = true := eqB_yes rfl (fun _ _ => rfl)
theorem grownN {w w' : World} (k : Below w.heap.size w w') : w.grownBy w' none := ⟨k.os, k.tape, k.output, k.size, fun j hj _ => k.block j hj⟩
theorem Rd.lowZ {w w' : World} {B : Nat} {ao : Option Addr} {n : Nat} {zs : List Int} (h : Rd w ao n zs) (hlb : 0 < n → ∀ b off, ao = some ⟨b, off, none⟩ → b < B) (hb : Below B w w') : Rd w' ao n zs := by
  refine ⟨h.len, h.room, h.num, fun hn => ?_⟩
  obtain ⟨b, off, e, hb', hc⟩ := h.cells hn
  exact ⟨b, off, e, Nat.lt_of_lt_of_le hb' hb.size, fun k hk => (World.cell?_of_block (a := ⟨b, off + k, none⟩) (hb.block b (hlb hn b off e))).trans (hc k hk)⟩
set_option maxHeartbeats 16000000 in
set_option maxRecDepth 20000 in
theorem plays_1 (hb B : Nat) (go : Option Addr) (gn : Nat) (so to' mo : Option Addr) (sn sc tn tc mn mc : Nat) (N : Int) (zs : List Int) (w : World) (hh : Hd w B ⟨hb, 0, none⟩ go gn) (h : Rd w so sn zs) (hs : Sl so sn sc) (hlb : 0 < sn → ∀ b off, so = some ⟨b, off, none⟩ → b < B) (hsm : sn ≤ 100000000) (hB : B ≤ w.heap.size) (N1 : -9223372036854775808 ≤ N) (N2 : N ≤ 9223372036854775807) :
    Calls Try.prog 7 #[.pointer (some ⟨hb, 0, none⟩), .agg #[.int .i64 1, .slice so sn sc, .slice to' tn tc, .int .i64 N, .slice mo mn mc]] w fun e w' => e = .returned (.bool true) ∧ ∃ g c, Played w w' B hb 0 go g c := by
  have k0 := box_below w (.cells #[.int .i64 1, .slice so sn sc, .slice to' tn tc, .int .i64 N, .slice mo mn mc] 37)
  have z0 := allocNew w (.cells #[.int .i64 1, .slice so sn sc, .slice to' tn tc, .int .i64 N, .slice mo mn mc] 37)
  have hs0 : (w.alloc (.cells #[.int .i64 1, .slice so sn sc, .slice to' tn tc, .int .i64 N, .slice mo mn mc] 37)).heap.size = w.heap.size + 1 := World.size_alloc _ _
  have KB : Below B w (w.alloc (.cells #[.int .i64 1, .slice so sn sc, .slice to' tn tc, .int .i64 N, .slice mo mn mc] 37)) := k0.mono hB
  have Dr : Below w.heap.size w (w.alloc (.cells #[.int .i64 1, .slice so sn sc, .slice to' tn tc, .int .i64 N, .slice mo mn mc] 37)).drew := k0.drew
  have hout := hh.out
  have hhd : Hd (w.alloc (.cells #[.int .i64 1, .slice so sn sc, .slice to' tn tc, .int .i64 N, .slice mo mn mc] 37)).drew B ⟨hb, 0, none⟩ go gn := hh.kept (Keep.of (grownN Dr)) (fun j e => by cases e)
  have hbB : B ≤ hb := hh.base
  have hlo : 0 < sn → ∀ b off, so = some ⟨b, off, none⟩ → b ≠ hb := fun h0 b off e => by have := hlb h0 b off e; omega
  have cI := ints_any hb 0 B go gn so sn sc zs (w.alloc (.cells #[.int .i64 1, .slice so sn sc, .slice to' tn tc, .int .i64 N, .slice mo mn mc] 37)).drew hhd (h.below Dr (Nat.le_refl _)) hs hlo hsm (by show B ≤ (w.alloc (.cells #[.int .i64 1, .slice so sn sc, .slice to' tn tc, .int .i64 N, .slice mo mn mc] 37)).heap.size; omega)
  obtain ⟨y0, y1, y2, y3, y4⟩ := box5 z0
  go_enter Try.func7, Try.ntmps7
  go_upto_region 3 with fail
  have HZ : Hid ((w.alloc (.cells #[.int .i64 1, .slice so sn sc, .slice to' tn tc, .int .i64 N, .slice mo mn mc] 37)).heap[w.heap.size]? = some (.cells #[.int .i64 1, .slice so sn sc, .slice to' tn tc, .int .i64 N, .slice mo mn mc] 37 (0, 0))) := z0
  have HI : Hid (Hd w B ⟨hb, 0, none⟩ go gn ∧ w.grownBy (w.alloc (.cells #[.int .i64 1, .slice so sn sc, .slice to' tn tc, .int .i64 N, .slice mo mn mc] 37)).drew none ∧ Hd (w.alloc (.cells #[.int .i64 1, .slice so sn sc, .slice to' tn tc, .int .i64 N, .slice mo mn mc] 37)).drew B ⟨hb, 0, none⟩ go gn) := ⟨hh, grownN Dr, hhd⟩
  have HB : Hid (B ≤ (w.alloc (.cells #[.int .i64 1, .slice so sn sc, .slice to' tn tc, .int .i64 N, .slice mo mn mc] 37)).drew.heap.size) := Nat.le_trans hB Dr.size
  have HR : Hid (Rd w so sn zs) := h
  have HS0 : Hid ((w.alloc (.cells #[.int .i64 1, .slice so sn sc, .slice to' tn tc, .int .i64 N, .slice mo mn mc] 37)).drew.heap.size = w.heap.size + 1) := hs0
  have HKD : Hid (Below w.heap.size w (w.alloc (.cells #[.int .i64 1, .slice so sn sc, .slice to' tn tc, .int .i64 N, .slice mo mn mc] 37)).drew) := Dr
  have hr1 := h.below Dr (Nat.le_refl _)
  have HOUT : Hid (∀ j, (j = hb ∨ some j = (Value.slice go 0 0).ownBlock) → B ≤ j ∧ j < w.heap.size) := hout
  clear z0 hhd hh h Dr KB k0 hs0 hout
  generalize w.alloc (.cells #[.int .i64 1, .slice so sn sc, .slice to' tn tc, .int .i64 N, .slice mo mn mc] 37) = W1 at *
  go_region_held3 (fun V => V.cell? ⟨w.heap.size, 1, none⟩ = some (.slice so sn sc)) (first | assumption | exact y1)
    (first
      | (go_at_call 18; (with_reducible refine cI.mono ?_); rintro e w2 ⟨g, c, rfl, H2⟩; have hR2 := H2.rd hr1; have ZW2 := (H2.keep.block w.heap.size (by have := HS0.out; omega) (fun e => by have := (HOUT.out _ e).2; omega)).trans HZ.out; obtain ⟨x0, x1, x2, x3, x4⟩ := box5 ZW2; have S2 : w2.cell? ⟨w.heap.size, 1, none⟩ = some (.slice so sn sc) := x1)
      | (go_at_call 14; (with_reducible refine (may_any _ _ _ _ _ hR2).mono ?_); rintro e w9 ⟨rfl, hw9⟩; rw [hw9]; clear hw9 w9))
  have k3 : w2.grownBy w2.drew none := ⟨rfl, rfl, rfl, Nat.le_refl _, fun _ _ _ => rfl⟩
  obtain ⟨pr3, cp3, b3, o3⟩ := mid HI.out.2.2 HB.out H2 k3
  have hnb : w.heap.size ≠ hb ∧ some w.heap.size ≠ (Value.slice go 0 0).ownBlock := ⟨fun e => by have := (HOUT.out hb (.inl rfl)).2; omega, fun e => by have := (HOUT.out _ (.inr e)).2; omega⟩
  have hbo : w.heap.size ≠ g := (o3 w.heap.size (by have := HS0.out; omega) hnb.1 hnb.2).2
  have h3 : Rd w2.drew so sn zs := hr1.lowZ hlb b3
  have hbg : 0 < sn → ∀ b off, so = some ⟨b, off, none⟩ → b ≠ g := fun h0 b off e => by have := hlb h0 b off e; have := H2.base; omega
  have cK := kept_any hb 0 g c so sn sc zs w2.drew cp3 H2.ne pr3 (by have := H2.room; omega) h3 hbg
  have HE : Hid (Handed W1.drew w2 B hb 0 go sn zs g c) := H2
  go_upto_region 4 with fail
  go_region_held3 (fun V => V.cell? ⟨w.heap.size, 1, none⟩ = some (.slice so sn sc)) (first | assumption | exact x1)
    (first
      | (go_at_call 19; (with_reducible refine cK.mono ?_); rintro e w4 ⟨rfl, hp4, hg4⟩; have S4 : w4.cell? ⟨w.heap.size, 1, none⟩ = some (.slice so sn sc) := hg4.cell x1 (some_ne hbo); have hR4 : Rd w4 so sn zs := h3.kept0 hg4 (fun h0 b off e => some_ne (hbg h0 b off e)))
      | (go_at_call 20; (with_reducible refine (refMay_any _ _ _ _ _ hR4).mono ?_); rintro e w8 ⟨rfl, hw8⟩; rw [hw8]; clear hw8 w8))
  go_wp2
  go_ret
  exact ⟨rfl, g, c, played_of HI.out.1 HI.out.2.1 HE.out k3 hp4 hg4 ⟨rfl, rfl, rfl, Nat.le_refl _, fun _ _ _ => rfl⟩⟩
set_option maxHeartbeats 16000000 in
set_option maxRecDepth 20000 in
theorem plays_2 (hb B : Nat) (go : Option Addr) (gn : Nat) (so to' mo : Option Addr) (sn sc tn tc mn mc : Nat) (N : Int) (zs : List Int) (w : World) (hh : Hd w B ⟨hb, 0, none⟩ go gn) (h : Rd w so sn zs) (hs : Sl so sn sc) (hlb : 0 < sn → ∀ b off, so = some ⟨b, off, none⟩ → b < B) (hsm : sn ≤ 100000000) (hB : B ≤ w.heap.size) (N1 : -9223372036854775808 ≤ N) (N2 : N ≤ 9223372036854775807) :
    Calls Try.prog 7 #[.pointer (some ⟨hb, 0, none⟩), .agg #[.int .i64 2, .slice so sn sc, .slice to' tn tc, .int .i64 N, .slice mo mn mc]] w fun e w' => e = .returned (.bool true) ∧ ∃ g c, Played w w' B hb 0 go g c := by
  have k0 := box_below w (.cells #[.int .i64 2, .slice so sn sc, .slice to' tn tc, .int .i64 N, .slice mo mn mc] 37)
  have z0 := allocNew w (.cells #[.int .i64 2, .slice so sn sc, .slice to' tn tc, .int .i64 N, .slice mo mn mc] 37)
  have hs0 : (w.alloc (.cells #[.int .i64 2, .slice so sn sc, .slice to' tn tc, .int .i64 N, .slice mo mn mc] 37)).heap.size = w.heap.size + 1 := World.size_alloc _ _
  have KB : Below B w (w.alloc (.cells #[.int .i64 2, .slice so sn sc, .slice to' tn tc, .int .i64 N, .slice mo mn mc] 37)) := k0.mono hB
  have Dr : Below w.heap.size w (w.alloc (.cells #[.int .i64 2, .slice so sn sc, .slice to' tn tc, .int .i64 N, .slice mo mn mc] 37)).drew := k0.drew
  have hout := hh.out
  have hhd : Hd (w.alloc (.cells #[.int .i64 2, .slice so sn sc, .slice to' tn tc, .int .i64 N, .slice mo mn mc] 37)).drew B ⟨hb, 0, none⟩ go gn := hh.kept (Keep.of (grownN Dr)) (fun j e => by cases e)
  have hbB : B ≤ hb := hh.base
  have hlo : 0 < sn → ∀ b off, so = some ⟨b, off, none⟩ → b ≠ hb := fun h0 b off e => by have := hlb h0 b off e; omega
  have cI := ints_any hb 0 B go gn so sn sc zs (w.alloc (.cells #[.int .i64 2, .slice so sn sc, .slice to' tn tc, .int .i64 N, .slice mo mn mc] 37)).drew hhd (h.below Dr (Nat.le_refl _)) hs hlo hsm (by show B ≤ (w.alloc (.cells #[.int .i64 2, .slice so sn sc, .slice to' tn tc, .int .i64 N, .slice mo mn mc] 37)).heap.size; omega)
  obtain ⟨y0, y1, y2, y3, y4⟩ := box5 z0
  go_enter Try.func7, Try.ntmps7
  go_upto_region 6 with fail
  have HZ : Hid ((w.alloc (.cells #[.int .i64 2, .slice so sn sc, .slice to' tn tc, .int .i64 N, .slice mo mn mc] 37)).heap[w.heap.size]? = some (.cells #[.int .i64 2, .slice so sn sc, .slice to' tn tc, .int .i64 N, .slice mo mn mc] 37 (0, 0))) := z0
  have HI : Hid (Hd w B ⟨hb, 0, none⟩ go gn ∧ w.grownBy (w.alloc (.cells #[.int .i64 2, .slice so sn sc, .slice to' tn tc, .int .i64 N, .slice mo mn mc] 37)).drew none ∧ Hd (w.alloc (.cells #[.int .i64 2, .slice so sn sc, .slice to' tn tc, .int .i64 N, .slice mo mn mc] 37)).drew B ⟨hb, 0, none⟩ go gn) := ⟨hh, grownN Dr, hhd⟩
  have HB : Hid (B ≤ (w.alloc (.cells #[.int .i64 2, .slice so sn sc, .slice to' tn tc, .int .i64 N, .slice mo mn mc] 37)).drew.heap.size) := Nat.le_trans hB Dr.size
  have HR : Hid (Rd w so sn zs) := h
  have HS0 : Hid ((w.alloc (.cells #[.int .i64 2, .slice so sn sc, .slice to' tn tc, .int .i64 N, .slice mo mn mc] 37)).drew.heap.size = w.heap.size + 1) := hs0
  have HKD : Hid (Below w.heap.size w (w.alloc (.cells #[.int .i64 2, .slice so sn sc, .slice to' tn tc, .int .i64 N, .slice mo mn mc] 37)).drew) := Dr
  have hr1 := h.below Dr (Nat.le_refl _)
  have HOUT : Hid (∀ j, (j = hb ∨ some j = (Value.slice go 0 0).ownBlock) → B ≤ j ∧ j < w.heap.size) := hout
  clear z0 hhd hh h Dr KB k0 hs0 hout
  generalize w.alloc (.cells #[.int .i64 2, .slice so sn sc, .slice to' tn tc, .int .i64 N, .slice mo mn mc] 37) = W1 at *
  go_region_held3 (fun V => V.cell? ⟨w.heap.size, 1, none⟩ = some (.slice so sn sc)) (first | assumption | exact y1)
    (first
      | (go_at_call 18; (with_reducible refine cI.mono ?_); rintro e w2 ⟨g, c, rfl, H2⟩; have hR2 := H2.rd hr1; have ZW2 := (H2.keep.block w.heap.size (by have := HS0.out; omega) (fun e => by have := (HOUT.out _ e).2; omega)).trans HZ.out; obtain ⟨x0, x1, x2, x3, x4⟩ := box5 ZW2; have S2 : w2.cell? ⟨w.heap.size, 1, none⟩ = some (.slice so sn sc) := x1)
      | (go_at_call 8; (with_reducible refine (size_any _ _ _ _ _ hR2).mono ?_); rintro e w9 ⟨rfl, hw9⟩; rw [hw9]; clear hw9 w9))
  have hnb : w.heap.size ≠ hb ∧ some w.heap.size ≠ (Value.slice go 0 0).ownBlock := ⟨fun e => by have := (HOUT.out hb (.inl rfl)).2; omega, fun e => by have := (HOUT.out _ (.inr e)).2; omega⟩
  have k2 : w2.grownBy w2 none := ⟨rfl, rfl, rfl, Nat.le_refl _, fun _ _ _ => rfl⟩
  obtain ⟨_, _, b2, o2⟩ := mid HI.out.2.2 HB.out H2 k2
  have hbo : w.heap.size ≠ g := (o2 w.heap.size (by have := HS0.out; omega) hnb.1 hnb.2).2
  have h2 : Rd w2 so sn zs := hr1.lowZ hlb b2
  have hbg : 0 < sn → ∀ b off, so = some ⟨b, off, none⟩ → b ≠ g := fun h0 b off e => by have := hlb h0 b off e; have := H2.base; omega
  have HE : Hid (Handed W1.drew w2 B hb 0 go sn zs g c) := H2
  skip
  go_upto_region 8 with (go_at_call 21; (with_reducible refine (refSize_any _ _ _ _ _ h2).mono ?_); rintro e w8 ⟨rfl, hw8⟩; rw [hw8]; clear hw8 w8)
  have k3 : w2.grownBy w2.drew none := grownN (Below.refl w2.heap.size w2).drew
  obtain ⟨pr3, cp3, b3, o3⟩ := mid HI.out.2.2 HB.out HE.out k3
  have h3 : Rd w2.drew so sn zs := hr1.lowZ hlb b3
  have cK := kept_any hb 0 g c so sn sc zs w2.drew cp3 HE.out.ne pr3 (by have := HE.out.room; omega) h3 hbg
  have ZV := (o3 w.heap.size (by have := HS0.out; omega) hnb.1 hnb.2).1.trans HZ.out
  obtain ⟨v0, v1, v2, v3, v4⟩ := box5 ZV
  go_region_held3 (fun V => V.cell? ⟨w.heap.size, 1, none⟩ = some (.slice so sn sc)) (first | assumption | exact v1)
    (first
      | (go_at_call 19; (with_reducible refine cK.mono ?_); rintro e w4 ⟨rfl, hp4, hg4⟩; have S4 : w4.cell? ⟨w.heap.size, 1, none⟩ = some (.slice so sn sc) := hg4.cell v1 (some_ne hbo)))
  go_wp2
  go_ret
  exact ⟨rfl, g, c, played_of HI.out.1 HI.out.2.1 HE.out k3 hp4 hg4 ⟨rfl, rfl, rfl, Nat.le_refl _, fun _ _ _ => rfl⟩⟩
set_option maxHeartbeats 16000000 in
set_option maxRecDepth 20000 in
theorem plays_4 (hb B : Nat) (go : Option Addr) (gn : Nat) (so to' mo : Option Addr) (sn sc tn tc mn mc : Nat) (N : Int) (zs : List Int) (w : World) (hh : Hd w B ⟨hb, 0, none⟩ go gn) (h : Rd w so sn zs) (hs : Sl so sn sc) (hlb : 0 < sn → ∀ b off, so = some ⟨b, off, none⟩ → b < B) (hsm : sn ≤ 100000000) (hB : B ≤ w.heap.size) (N1 : -9223372036854775808 ≤ N) (N2 : N ≤ 9223372036854775807) :
    Calls Try.prog 7 #[.pointer (some ⟨hb, 0, none⟩), .agg #[.int .i64 4, .slice so sn sc, .slice to' tn tc, .int .i64 N, .slice mo mn mc]] w fun e w' => e = .returned (.bool true) ∧ ∃ g c, Played w w' B hb 0 go g c := by
  have k0 := box_below w (.cells #[.int .i64 4, .slice so sn sc, .slice to' tn tc, .int .i64 N, .slice mo mn mc] 37)
  have z0 := allocNew w (.cells #[.int .i64 4, .slice so sn sc, .slice to' tn tc, .int .i64 N, .slice mo mn mc] 37)
  have hs0 : (w.alloc (.cells #[.int .i64 4, .slice so sn sc, .slice to' tn tc, .int .i64 N, .slice mo mn mc] 37)).heap.size = w.heap.size + 1 := World.size_alloc _ _
  have KB : Below B w (w.alloc (.cells #[.int .i64 4, .slice so sn sc, .slice to' tn tc, .int .i64 N, .slice mo mn mc] 37)) := k0.mono hB
  have Dr : Below w.heap.size w (w.alloc (.cells #[.int .i64 4, .slice so sn sc, .slice to' tn tc, .int .i64 N, .slice mo mn mc] 37)).drew := k0.drew
  have hout := hh.out
  have hhd : Hd (w.alloc (.cells #[.int .i64 4, .slice so sn sc, .slice to' tn tc, .int .i64 N, .slice mo mn mc] 37)).drew B ⟨hb, 0, none⟩ go gn := hh.kept (Keep.of (grownN Dr)) (fun j e => by cases e)
  have hbB : B ≤ hb := hh.base
  have hlo : 0 < sn → ∀ b off, so = some ⟨b, off, none⟩ → b ≠ hb := fun h0 b off e => by have := hlb h0 b off e; omega
  have cI := ints_any hb 0 B go gn so sn sc zs (w.alloc (.cells #[.int .i64 4, .slice so sn sc, .slice to' tn tc, .int .i64 N, .slice mo mn mc] 37)).drew hhd (h.below Dr (Nat.le_refl _)) hs hlo hsm (by show B ≤ (w.alloc (.cells #[.int .i64 4, .slice so sn sc, .slice to' tn tc, .int .i64 N, .slice mo mn mc] 37)).heap.size; omega)
  obtain ⟨y0, y1, y2, y3, y4⟩ := box5 z0
  go_enter Try.func7, Try.ntmps7
  go_upto_region 16 with fail
  have HZ : Hid ((w.alloc (.cells #[.int .i64 4, .slice so sn sc, .slice to' tn tc, .int .i64 N, .slice mo mn mc] 37)).heap[w.heap.size]? = some (.cells #[.int .i64 4, .slice so sn sc, .slice to' tn tc, .int .i64 N, .slice mo mn mc] 37 (0, 0))) := z0
  have HI : Hid (Hd w B ⟨hb, 0, none⟩ go gn ∧ w.grownBy (w.alloc (.cells #[.int .i64 4, .slice so sn sc, .slice to' tn tc, .int .i64 N, .slice mo mn mc] 37)).drew none ∧ Hd (w.alloc (.cells #[.int .i64 4, .slice so sn sc, .slice to' tn tc, .int .i64 N, .slice mo mn mc] 37)).drew B ⟨hb, 0, none⟩ go gn) := ⟨hh, grownN Dr, hhd⟩
  have HB : Hid (B ≤ (w.alloc (.cells #[.int .i64 4, .slice so sn sc, .slice to' tn tc, .int .i64 N, .slice mo mn mc] 37)).drew.heap.size) := Nat.le_trans hB Dr.size
  have HR : Hid (Rd w so sn zs) := h
  have HS0 : Hid ((w.alloc (.cells #[.int .i64 4, .slice so sn sc, .slice to' tn tc, .int .i64 N, .slice mo mn mc] 37)).drew.heap.size = w.heap.size + 1) := hs0
  have HKD : Hid (Below w.heap.size w (w.alloc (.cells #[.int .i64 4, .slice so sn sc, .slice to' tn tc, .int .i64 N, .slice mo mn mc] 37)).drew) := Dr
  have hr1 := h.below Dr (Nat.le_refl _)
  have HOUT : Hid (∀ j, (j = hb ∨ some j = (Value.slice go 0 0).ownBlock) → B ≤ j ∧ j < w.heap.size) := hout
  clear z0 hhd hh h Dr KB k0 hs0 hout
  generalize w.alloc (.cells #[.int .i64 4, .slice so sn sc, .slice to' tn tc, .int .i64 N, .slice mo mn mc] 37) = W1 at *
  go_region_held3 (fun V => V.cell? ⟨w.heap.size, 1, none⟩ = some (.slice so sn sc) ∧ V.cell? ⟨w.heap.size, 3, none⟩ = some (.int .i64 N)) (first | assumption | exact ⟨y1, y3⟩)
    (first
      | (go_at_call 18; (with_reducible refine cI.mono ?_); rintro e w2 ⟨g, c, rfl, H2⟩; have hR2 := H2.rd hr1; have ZW2 := (H2.keep.block w.heap.size (by have := HS0.out; omega) (fun e => by have := (HOUT.out _ e).2; omega)).trans HZ.out; obtain ⟨x0, x1, x2, x3, x4⟩ := box5 ZW2; have S2 : w2.cell? ⟨w.heap.size, 1, none⟩ = some (.slice so sn sc) ∧ w2.cell? ⟨w.heap.size, 3, none⟩ = some (.int .i64 N) := ⟨x1, x3⟩)
      | (go_at_call 10; (with_reducible refine (at_any _ _ _ _ N _ hR2 N1 N2).mono ?_); rintro e w3 ⟨co, k, cc, rfl, F3, B3⟩; have ZW3 := (B3.block w.heap.size (Array.getElem?_eq_some_iff.1 ZW2).1).trans ZW2; obtain ⟨t0, t1, t2, t3, t4⟩ := box5 ZW3; have S3 : w3.cell? ⟨w.heap.size, 1, none⟩ = some (.slice so sn sc) ∧ w3.cell? ⟨w.heap.size, 3, none⟩ = some (.int .i64 N) := ⟨t1, t3⟩))
  have hnb : w.heap.size ≠ hb ∧ some w.heap.size ≠ (Value.slice go 0 0).ownBlock := ⟨fun e => by have := (HOUT.out hb (.inl rfl)).2; omega, fun e => by have := (HOUT.out _ (.inr e)).2; omega⟩
  have k2 : w2.grownBy w2 none := ⟨rfl, rfl, rfl, Nat.le_refl _, fun _ _ _ => rfl⟩
  obtain ⟨_, _, b2, o2⟩ := mid HI.out.2.2 HB.out H2 k2
  have hbo : w.heap.size ≠ g := (o2 w.heap.size (by have := HS0.out; omega) hnb.1 hnb.2).2
  have h2 : Rd w2 so sn zs := hr1.lowZ hlb b2
  have hbg : 0 < sn → ∀ b off, so = some ⟨b, off, none⟩ → b ≠ g := fun h0 b off e => by have := hlb h0 b off e; have := H2.base; omega
  have HE : Hid (Handed W1.drew w2 B hb 0 go sn zs g c) := H2
  have h23 : Rd w3 so sn zs := h2.below B3 (Nat.le_refl _)
  have hco := F3.ne HE.out.row.lt
  have HF3 : Hid (Fr w3 w2.heap.size co k cc (atL zs N)) := F3
  go_upto_region 18 with (go_at_call 23; (with_reducible refine (refAt_any _ _ _ _ N _ h23 N1 N2).mono ?_); rintro e w5 ⟨co5, k5, cc5, rfl, F5, B5⟩; have hco5 := F5.ne (Nat.lt_of_lt_of_le HE.out.row.lt B3.size))
  have k3 : w2.grownBy w5.drew none := grownN (B3.trans (B5.mono B3.size)).drew
  obtain ⟨pr3, cp3, b3, o3⟩ := mid HI.out.2.2 HB.out HE.out k3
  have h3 : Rd w5.drew so sn zs := hr1.lowZ hlb b3
  have cK := kept_any hb 0 g c so sn sc zs w5.drew cp3 HE.out.ne pr3 (by have := HE.out.room; omega) h3 hbg
  have ZV := (o3 w.heap.size (by have := HS0.out; omega) hnb.1 hnb.2).1.trans HZ.out
  obtain ⟨v0, v1, v2, v3, v4⟩ := box5 ZV
  go_region_held3 (fun V => V.cell? ⟨w.heap.size, 1, none⟩ = some (.slice so sn sc)) (first | assumption | exact v1)
    (first
      | (go_at_call 19; (with_reducible refine cK.mono ?_); rintro e w4 ⟨rfl, hp4, hg4⟩; have S4 : w4.cell? ⟨w.heap.size, 1, none⟩ = some (.slice so sn sc) := hg4.cell v1 (some_ne hbo); have R5 : Rd w4 co k (atL zs N) := ((F3.rd.below B5 (Nat.le_refl _)).below ((Below.refl w5.heap.size w5).drew) (Nat.le_refl _)).kept0 hg4 (fun h0 b off e => some_ne (hco b off e)); have R6 : Rd w4 co5 k5 (atL zs N) := (F5.rd.below ((Below.refl w5.heap.size w5).drew) (Nat.le_refl _)).kept0 hg4 (fun h0 b off e => some_ne (hco5 b off e)))
      | (go_at_call 15; (with_reducible refine (eqInts_any _ _ _ _ _ _ _ _ _ R5 R6).mono ?_); rintro e w6 ⟨rfl, q6, rfl⟩; rw [eqB_self]))
  go_wp2
  go_ret
  exact ⟨rfl, g, c, played_of HI.out.1 HI.out.2.1 HE.out k3 hp4 hg4 ⟨rfl, rfl, rfl, Nat.le_refl _, fun _ _ _ => rfl⟩⟩
set_option maxHeartbeats 16000000 in
set_option maxRecDepth 20000 in
theorem plays_5 (hb B : Nat) (go : Option Addr) (gn : Nat) (so to' mo : Option Addr) (sn sc tn tc mn mc : Nat) (N : Int) (zs : List Int) (w : World) (hh : Hd w B ⟨hb, 0, none⟩ go gn) (h : Rd w so sn zs) (hs : Sl so sn sc) (hlb : 0 < sn → ∀ b off, so = some ⟨b, off, none⟩ → b < B) (hsm : sn ≤ 100000000) (hB : B ≤ w.heap.size) (N1 : -9223372036854775808 ≤ N) (N2 : N ≤ 9223372036854775807) :
    Calls Try.prog 7 #[.pointer (some ⟨hb, 0, none⟩), .agg #[.int .i64 5, .slice so sn sc, .slice to' tn tc, .int .i64 N, .slice mo mn mc]] w fun e w' => e = .returned (.bool true) ∧ ∃ g c, Played w w' B hb 0 go g c := by
  have k0 := box_below w (.cells #[.int .i64 5, .slice so sn sc, .slice to' tn tc, .int .i64 N, .slice mo mn mc] 37)
  have z0 := allocNew w (.cells #[.int .i64 5, .slice so sn sc, .slice to' tn tc, .int .i64 N, .slice mo mn mc] 37)
  have hs0 : (w.alloc (.cells #[.int .i64 5, .slice so sn sc, .slice to' tn tc, .int .i64 N, .slice mo mn mc] 37)).heap.size = w.heap.size + 1 := World.size_alloc _ _
  have KB : Below B w (w.alloc (.cells #[.int .i64 5, .slice so sn sc, .slice to' tn tc, .int .i64 N, .slice mo mn mc] 37)) := k0.mono hB
  have Dr : Below w.heap.size w (w.alloc (.cells #[.int .i64 5, .slice so sn sc, .slice to' tn tc, .int .i64 N, .slice mo mn mc] 37)).drew := k0.drew
  have hout := hh.out
  have hhd : Hd (w.alloc (.cells #[.int .i64 5, .slice so sn sc, .slice to' tn tc, .int .i64 N, .slice mo mn mc] 37)).drew B ⟨hb, 0, none⟩ go gn := hh.kept (Keep.of (grownN Dr)) (fun j e => by cases e)
  have hbB : B ≤ hb := hh.base
  have hlo : 0 < sn → ∀ b off, so = some ⟨b, off, none⟩ → b ≠ hb := fun h0 b off e => by have := hlb h0 b off e; omega
  have cI := ints_any hb 0 B go gn so sn sc zs (w.alloc (.cells #[.int .i64 5, .slice so sn sc, .slice to' tn tc, .int .i64 N, .slice mo mn mc] 37)).drew hhd (h.below Dr (Nat.le_refl _)) hs hlo hsm (by show B ≤ (w.alloc (.cells #[.int .i64 5, .slice so sn sc, .slice to' tn tc, .int .i64 N, .slice mo mn mc] 37)).heap.size; omega)
  obtain ⟨y0, y1, y2, y3, y4⟩ := box5 z0
  go_enter Try.func7, Try.ntmps7
  go_upto_region 20 with fail
  have HZ : Hid ((w.alloc (.cells #[.int .i64 5, .slice so sn sc, .slice to' tn tc, .int .i64 N, .slice mo mn mc] 37)).heap[w.heap.size]? = some (.cells #[.int .i64 5, .slice so sn sc, .slice to' tn tc, .int .i64 N, .slice mo mn mc] 37 (0, 0))) := z0
  have HI : Hid (Hd w B ⟨hb, 0, none⟩ go gn ∧ w.grownBy (w.alloc (.cells #[.int .i64 5, .slice so sn sc, .slice to' tn tc, .int .i64 N, .slice mo mn mc] 37)).drew none ∧ Hd (w.alloc (.cells #[.int .i64 5, .slice so sn sc, .slice to' tn tc, .int .i64 N, .slice mo mn mc] 37)).drew B ⟨hb, 0, none⟩ go gn) := ⟨hh, grownN Dr, hhd⟩
  have HB : Hid (B ≤ (w.alloc (.cells #[.int .i64 5, .slice so sn sc, .slice to' tn tc, .int .i64 N, .slice mo mn mc] 37)).drew.heap.size) := Nat.le_trans hB Dr.size
  have HR : Hid (Rd w so sn zs) := h
  have HS0 : Hid ((w.alloc (.cells #[.int .i64 5, .slice so sn sc, .slice to' tn tc, .int .i64 N, .slice mo mn mc] 37)).drew.heap.size = w.heap.size + 1) := hs0
  have HKD : Hid (Below w.heap.size w (w.alloc (.cells #[.int .i64 5, .slice so sn sc, .slice to' tn tc, .int .i64 N, .slice mo mn mc] 37)).drew) := Dr
  have hr1 := h.below Dr (Nat.le_refl _)
  have HOUT : Hid (∀ j, (j = hb ∨ some j = (Value.slice go 0 0).ownBlock) → B ≤ j ∧ j < w.heap.size) := hout
  clear z0 hhd hh h Dr KB k0 hs0 hout
  generalize w.alloc (.cells #[.int .i64 5, .slice so sn sc, .slice to' tn tc, .int .i64 N, .slice mo mn mc] 37) = W1 at *
  go_region_held3 (fun V => V.cell? ⟨w.heap.size, 1, none⟩ = some (.slice so sn sc) ∧ V.cell? ⟨w.heap.size, 3, none⟩ = some (.int .i64 N)) (first | assumption | exact ⟨y1, y3⟩)
    (first
      | (go_at_call 18; (with_reducible refine cI.mono ?_); rintro e w2 ⟨g, c, rfl, H2⟩; have hR2 := H2.rd hr1; have ZW2 := (H2.keep.block w.heap.size (by have := HS0.out; omega) (fun e => by have := (HOUT.out _ e).2; omega)).trans HZ.out; obtain ⟨x0, x1, x2, x3, x4⟩ := box5 ZW2; have S2 : w2.cell? ⟨w.heap.size, 1, none⟩ = some (.slice so sn sc) ∧ w2.cell? ⟨w.heap.size, 3, none⟩ = some (.int .i64 N) := ⟨x1, x3⟩)
      | (go_at_call 11; (with_reducible refine (split_any _ _ _ _ N _ hR2 ⟨fun e => (by cases e), by have := H2.room; omega, H2.row.le⟩ N1 N2).mono ?_); rintro e w3 ⟨a1, cp1, a2, cp2, rfl, F3, G3, _, B3⟩; have ZW3 := (B3.block w.heap.size (Array.getElem?_eq_some_iff.1 ZW2).1).trans ZW2; obtain ⟨t0, t1, t2, t3, t4⟩ := box5 ZW3; have S3 : w3.cell? ⟨w.heap.size, 1, none⟩ = some (.slice so sn sc) ∧ w3.cell? ⟨w.heap.size, 3, none⟩ = some (.int .i64 N) := ⟨t1, t3⟩))
  have hnb : w.heap.size ≠ hb ∧ some w.heap.size ≠ (Value.slice go 0 0).ownBlock := ⟨fun e => by have := (HOUT.out hb (.inl rfl)).2; omega, fun e => by have := (HOUT.out _ (.inr e)).2; omega⟩
  have k2 : w2.grownBy w2 none := ⟨rfl, rfl, rfl, Nat.le_refl _, fun _ _ _ => rfl⟩
  obtain ⟨_, _, b2, o2⟩ := mid HI.out.2.2 HB.out H2 k2
  have hbo : w.heap.size ≠ g := (o2 w.heap.size (by have := HS0.out; omega) hnb.1 hnb.2).2
  have h2 : Rd w2 so sn zs := hr1.lowZ hlb b2
  have hbg : 0 < sn → ∀ b off, so = some ⟨b, off, none⟩ → b ≠ g := fun h0 b off e => by have := hlb h0 b off e; have := H2.base; omega
  have HE : Hid (Handed W1.drew w2 B hb 0 go sn zs g c) := H2
  have h23 : Rd w3 so sn zs := h2.below B3 (Nat.le_refl _)
  have hco := F3.ne HE.out.row.lt
  have hcp := G3.ne HE.out.row.lt
  go_upto_region 22 with (go_at_call 24; (with_reducible refine (refSplit_any _ _ _ _ N _ h23 hs N1 N2).mono ?_); rintro e w5 ⟨b1, cq1, b2, cq2, rfl, F5, G5, _, B5⟩; have hco5 := F5.ne (Nat.lt_of_lt_of_le HE.out.row.lt B3.size); have hcp5 := G5.ne (Nat.lt_of_lt_of_le HE.out.row.lt B3.size))
  have k3 : w2.grownBy w5.drew none := grownN (B3.trans (B5.mono B3.size)).drew
  obtain ⟨pr3, cp3, b3, o3⟩ := mid HI.out.2.2 HB.out HE.out k3
  have h3 : Rd w5.drew so sn zs := hr1.lowZ hlb b3
  have cK := kept_any hb 0 g c so sn sc zs w5.drew cp3 HE.out.ne pr3 (by have := HE.out.room; omega) h3 hbg
  have ZV := (o3 w.heap.size (by have := HS0.out; omega) hnb.1 hnb.2).1.trans HZ.out
  obtain ⟨v0, v1, v2, v3, v4⟩ := box5 ZV
  go_region_held3 (fun V => V.cell? ⟨w.heap.size, 1, none⟩ = some (.slice so sn sc)) (first | assumption | exact v1)
    (first
      | (go_at_call 19; (with_reducible refine cK.mono ?_); rintro e w4 ⟨rfl, hp4, hg4⟩; have S4 : w4.cell? ⟨w.heap.size, 1, none⟩ = some (.slice so sn sc) := hg4.cell v1 (some_ne hbo); have dd := ((Below.refl w5.heap.size w5).drew); have R5 := ((F3.rd.below B5 (Nat.le_refl _)).below dd (Nat.le_refl _)).kept0 hg4 (fun h0 b off e => some_ne (hco b off e)); have R6 := (F5.rd.below dd (Nat.le_refl _)).kept0 hg4 (fun h0 b off e => some_ne (hco5 b off e)); have R7 := ((G3.rd.below B5 (Nat.le_refl _)).below dd (Nat.le_refl _)).kept0 hg4 (fun h0 b off e => some_ne (hcp b off e)); have R8 := (G5.rd.below dd (Nat.le_refl _)).kept0 hg4 (fun h0 b off e => some_ne (hcp5 b off e)))
      | (go_at_call 15; (with_reducible refine (eqInts_any _ _ _ _ _ _ _ _ _ R5 R6).mono ?_); rintro e w6 ⟨rfl, q6, rfl⟩; rw [eqB_self])
      | (go_at_call 15; (with_reducible refine (eqInts_any _ _ _ _ _ _ _ _ _ (R7.drewN _) (R8.drewN _)).mono ?_); rintro e w7 ⟨rfl, q7, rfl⟩; rw [eqB_self]))
  go_wp2
  go_ret
  exact ⟨rfl, g, c, played_of HI.out.1 HI.out.2.1 HE.out k3 hp4 hg4 ⟨rfl, rfl, rfl, Nat.le_refl _, fun _ _ _ => rfl⟩⟩
end Go.Proofs.Ytndjlbedfccnjaa
