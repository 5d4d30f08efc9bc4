
/- ShapeAll: the call of All. -/

import Derived.Test.YtndjlbedfccnjaaQA

namespace Go.Proofs.Ytndjlbedfccnjaa

open Go.RowKit

set_option linter.unusedVariables false

theorem Sq.kept {w w' : World} {row : Option Nat} {B1 B2 : Nat} {co : Option Addr} {n c : Nat} {zs : List Int} (h : Sq w B1 B2 co n c zs) (hg : w.grownBy w' row) (h1 : some B1 ≠ row) (h2 : some B2 ≠ row) (h3 : ∀ b off, co = some ⟨b, off, none⟩ → some b ≠ row) : Sq w' B1 B2 co n c zs :=
  ⟨h.size.kept hg h1, h.list.kept hg h2, h.rd.kept0 hg (fun _ => h3)⟩
set_option maxHeartbeats 16000000 in
set_option maxRecDepth 20000 in
theorem plays_8 (hb B : Nat) (go : Option Addr) (gn : Nat) (so to' mo : Option Addr) (sn sc tn tc mn mc : Nat) (N : Int) (zs : List Int) (w : World) (hh : Hd w B ⟨hb, 0, none⟩ go gn) (h : Rd w so sn zs) (hs : Sl so sn sc) (hlb : 0 < sn → ∀ b off, so = some ⟨b, off, none⟩ → b < B) (hsm : sn ≤ 100000000) (hB : B ≤ w.heap.size) (N1 : -9223372036854775808 ≤ N) (N2 : N ≤ 9223372036854775807) :
    Calls Try.prog 7 #[.pointer (some ⟨hb, 0, none⟩), .agg #[.int .i64 8, .slice so sn sc, .slice to' tn tc, .int .i64 N, .slice mo mn mc]] w fun e w' => e = .returned (.bool true) ∧ ∃ g c, Played w w' B hb 0 go g c := by
  have k0 := box_below w (.cells #[.int .i64 8, .slice so sn sc, .slice to' tn tc, .int .i64 N, .slice mo mn mc] 37)
  have z0 := allocNew w (.cells #[.int .i64 8, .slice so sn sc, .slice to' tn tc, .int .i64 N, .slice mo mn mc] 37)
  have hs0 : (w.alloc (.cells #[.int .i64 8, .slice so sn sc, .slice to' tn tc, .int .i64 N, .slice mo mn mc] 37)).heap.size = w.heap.size + 1 := World.size_alloc _ _
  have KB : Below B w (w.alloc (.cells #[.int .i64 8, .slice so sn sc, .slice to' tn tc, .int .i64 N, .slice mo mn mc] 37)) := k0.mono hB
  have Dr : Below w.heap.size w (w.alloc (.cells #[.int .i64 8, .slice so sn sc, .slice to' tn tc, .int .i64 N, .slice mo mn mc] 37)).drew := k0.drew
  have hout := hh.out
  have hhd : Hd (w.alloc (.cells #[.int .i64 8, .slice so sn sc, .slice to' tn tc, .int .i64 N, .slice mo mn mc] 37)).drew B ⟨hb, 0, none⟩ go gn := hh.kept (Keep.of (grownN Dr)) (fun j e => by cases e)
  have hbB : B ≤ hb := hh.base
  have hlo : 0 < sn → ∀ b off, so = some ⟨b, off, none⟩ → b ≠ hb := fun h0 b off e => by have := hlb h0 b off e; omega
  have cI := ints_any hb 0 B go gn so sn sc zs (w.alloc (.cells #[.int .i64 8, .slice so sn sc, .slice to' tn tc, .int .i64 N, .slice mo mn mc] 37)).drew hhd (h.below Dr (Nat.le_refl _)) hs hlo hsm (by show B ≤ (w.alloc (.cells #[.int .i64 8, .slice so sn sc, .slice to' tn tc, .int .i64 N, .slice mo mn mc] 37)).heap.size; omega)
  obtain ⟨y0, y1, y2, y3, y4⟩ := box5 z0
  go_enter Try.func7, Try.ntmps7
  go_upto_region 34 with fail
  have HZ : Hid ((w.alloc (.cells #[.int .i64 8, .slice so sn sc, .slice to' tn tc, .int .i64 N, .slice mo mn mc] 37)).heap[w.heap.size]? = some (.cells #[.int .i64 8, .slice so sn sc, .slice to' tn tc, .int .i64 N, .slice mo mn mc] 37 (0, 0))) := z0
  have HI : Hid (Hd w B ⟨hb, 0, none⟩ go gn ∧ w.grownBy (w.alloc (.cells #[.int .i64 8, .slice so sn sc, .slice to' tn tc, .int .i64 N, .slice mo mn mc] 37)).drew none ∧ Hd (w.alloc (.cells #[.int .i64 8, .slice so sn sc, .slice to' tn tc, .int .i64 N, .slice mo mn mc] 37)).drew B ⟨hb, 0, none⟩ go gn) := ⟨hh, grownN Dr, hhd⟩
  have HB : Hid (B ≤ (w.alloc (.cells #[.int .i64 8, .slice so sn sc, .slice to' tn tc, .int .i64 N, .slice mo mn mc] 37)).drew.heap.size) := Nat.le_trans hB Dr.size
  have HR : Hid (Rd w so sn zs) := h
  have HS0 : Hid ((w.alloc (.cells #[.int .i64 8, .slice so sn sc, .slice to' tn tc, .int .i64 N, .slice mo mn mc] 37)).drew.heap.size = w.heap.size + 1) := hs0
  have HKD : Hid (Below w.heap.size w (w.alloc (.cells #[.int .i64 8, .slice so sn sc, .slice to' tn tc, .int .i64 N, .slice mo mn mc] 37)).drew) := Dr
  have hr1 := h.below Dr (Nat.le_refl _)
  have HOUT : Hid (∀ j, (j = hb ∨ some j = (Value.slice go 0 0).ownBlock) → B ≤ j ∧ j < w.heap.size) := hout
  clear z0 hhd hh h Dr KB k0 hs0 hout
  generalize w.alloc (.cells #[.int .i64 8, .slice so sn sc, .slice to' tn tc, .int .i64 N, .slice mo mn mc] 37) = W1 at *
  go_region_held3 (fun V => V.cell? ⟨w.heap.size, 1, none⟩ = some (.slice so sn sc) ∧ V.cell? ⟨w.heap.size, 3, none⟩ = some (.int .i64 N)) (first | assumption | exact ⟨y1, y3⟩)
    (first
      | (go_at_call 18; (with_reducible refine cI.mono ?_); rintro e w2 ⟨g, c, rfl, H2⟩; have hR2 := H2.rd hr1; have ZW2 := (H2.keep.block w.heap.size (by have := HS0.out; omega) (fun e => by have := (HOUT.out _ e).2; omega)).trans HZ.out; obtain ⟨x0, x1, x2, x3, x4⟩ := box5 ZW2; have S2 : w2.cell? ⟨w.heap.size, 1, none⟩ = some (.slice so sn sc) ∧ w2.cell? ⟨w.heap.size, 3, none⟩ = some (.int .i64 N) := ⟨x1, x3⟩)
      | (go_at_call 17; (with_reducible refine (all_any _ _ _ _ _ hR2).mono ?_); rintro e w3 ⟨B1, B2, co, cc, rfl, Q3, F3, l1, l2, B3⟩; have ZW3 := (B3.block w.heap.size (Array.getElem?_eq_some_iff.1 ZW2).1).trans ZW2; obtain ⟨t0, t1, t2, t3, t4⟩ := box5 ZW3; have S3 : w3.cell? ⟨w.heap.size, 1, none⟩ = some (.slice so sn sc) ∧ w3.cell? ⟨w.heap.size, 3, none⟩ = some (.int .i64 N) := ⟨t1, t3⟩))
  have hnb : w.heap.size ≠ hb ∧ some w.heap.size ≠ (Value.slice go 0 0).ownBlock := ⟨fun e => by have := (HOUT.out hb (.inl rfl)).2; omega, fun e => by have := (HOUT.out _ (.inr e)).2; omega⟩
  have k2 : w2.grownBy w2 none := ⟨rfl, rfl, rfl, Nat.le_refl _, fun _ _ _ => rfl⟩
  obtain ⟨_, _, b2, o2⟩ := mid HI.out.2.2 HB.out H2 k2
  have hbo : w.heap.size ≠ g := (o2 w.heap.size (by have := HS0.out; omega) hnb.1 hnb.2).2
  have h2 : Rd w2 so sn zs := hr1.lowZ hlb b2
  have hbg : 0 < sn → ∀ b off, so = some ⟨b, off, none⟩ → b ≠ g := fun h0 b off e => by have := hlb h0 b off e; have := H2.base; omega
  have HE : Hid (Handed W1.drew w2 B hb 0 go sn zs g c) := H2
  have hco := F3.ne HE.out.row.lt
  have hgl := HE.out.row.lt
  have hb1 : some B1 ≠ some g := some_ne (by omega)
  have hb2 : some B2 ≠ some g := some_ne (by omega)
  have Q3d := Q3.below ((Below.refl w3.heap.size w3).drew) (Nat.le_refl _)
  go_upto_region 35 with (fail)
  have k3 : w2.grownBy w3.drew none := grownN (B3).drew
  obtain ⟨pr3, cp3, b3, o3⟩ := mid HI.out.2.2 HB.out HE.out k3
  have h3 : Rd w3.drew so sn zs := hr1.lowZ hlb b3
  have cK := kept_any hb 0 g c so sn sc zs w3.drew cp3 HE.out.ne pr3 (by have := HE.out.room; omega) h3 hbg
  have ZV := (o3 w.heap.size (by have := HS0.out; omega) hnb.1 hnb.2).1.trans HZ.out
  obtain ⟨v0, v1, v2, v3, v4⟩ := box5 ZV
  go_region_held3 (fun V => V.cell? ⟨w.heap.size, 1, none⟩ = some (.slice so sn sc) ∧ V.cell? ⟨w.heap.size, 3, none⟩ = some (.int .i64 N)) (first | assumption | exact ⟨v1, v3⟩)
    (first
      | (go_at_call 19; (with_reducible refine cK.mono ?_); rintro e w4 ⟨rfl, hp4, hg4⟩; have S4 : w4.cell? ⟨w.heap.size, 1, none⟩ = some (.slice so sn sc) := hg4.cell v1 (some_ne hbo); have S4' : w4.cell? ⟨w.heap.size, 1, none⟩ = some (.slice so sn sc) ∧ w4.cell? ⟨w.heap.size, 3, none⟩ = some (.int .i64 N) := ⟨S4, hg4.cell v3 (some_ne hbo)⟩; have Q4 := Q3d.kept hg4 hb1 hb2 (fun b off e => some_ne (hco b off e)); have R4 : Rd w4 so sn zs := h3.kept0 hg4 (fun h0 b off e => some_ne (hbg h0 b off e)); have ZV4 := (hg4.block w.heap.size (by have := HS0.out; have := k3.size; have := HE.out.keep.size; omega) (some_ne hbo)).trans ZV)
      | (go_at_call 16; (with_reducible refine (walks_any _ _ _ _ _ R4 _ _ _ _ Q4 N N1 N2).mono ?_); rintro e w5 ⟨rfl, B5⟩; have Q5 := Q4.below B5 (Nat.le_refl _); have R5 := R4.below B5 (Nat.le_refl _); have ZV5 := (B5.block w.heap.size (Array.getElem?_eq_some_iff.1 ZV4).1).trans ZV4; obtain ⟨s0, s1, s2, s3, s4⟩ := box5 ZV5; have S5 : w5.cell? ⟨w.heap.size, 1, none⟩ = some (.slice so sn sc) ∧ w5.cell? ⟨w.heap.size, 3, none⟩ = some (.int .i64 N) := ⟨s1, s3⟩)
      | (go_at_call 16; (with_reducible refine (walks_any _ _ _ _ _ R5 _ _ _ _ Q5 0 (by decide) (by decide)).mono ?_); rintro e w6 ⟨rfl, B6⟩; have ZV6 := (B6.block w.heap.size (Array.getElem?_eq_some_iff.1 ZV5).1).trans ZV5; obtain ⟨r0, r1, r2, r3, r4⟩ := box5 ZV6; have S6 : w6.cell? ⟨w.heap.size, 1, none⟩ = some (.slice so sn sc) ∧ w6.cell? ⟨w.heap.size, 3, none⟩ = some (.int .i64 N) := ⟨r1, r3⟩))
  go_wp2
  go_ret
  exact ⟨rfl, g, c, played_of HI.out.1 HI.out.2.1 HE.out k3 hp4 hg4 (grownN (B5.trans (B6.mono B5.size)))⟩
end Go.Proofs.Ytndjlbedfccnjaa
