
/- ShapeAll: the call of Cover. -/

import Derived.Test.YtndjlbedfccnjaaQG

namespace Go.Proofs.Ytndjlbedfccnjaa

open Go.RowKit

set_option linter.unusedVariables false

theorem Fr.ge {w : World} {B : Nat} {ao : Option Addr} {n cap : Nat} {zs : List Int} (h : Fr w B ao n cap zs) : ∀ b off, ao = some ⟨b, off, none⟩ → B ≤ b := by
  rintro b off rfl
  rcases h.own.2 with ⟨e1, _⟩ | ⟨g', c', cur, e1, hb, _⟩
  · cases e1
  · cases e1; exact hb
theorem Rd.keepT {w w' : World} {T : Nat → Prop} {ao : Option Addr} {n : Nat} {zs : List Int} (h : Rd w ao n zs) (k : Keep w w' T) (hne : 0 < n → ∀ b off, ao = some ⟨b, off, none⟩ → ¬ T b) : Rd w' ao n zs := by
  refine ⟨h.len, h.room, h.num, fun hn => ?_⟩
  obtain ⟨b, off, e, hb', hc⟩ := h.cells hn
  exact ⟨b, off, e, Nat.lt_of_lt_of_le hb' k.size, fun j hj => (World.cell?_of_block (a := ⟨b, off + j, none⟩) (k.block b hb' (hne hn b off e))).trans (hc j hj)⟩
theorem La.rs {W w0 : World} {B hb M kn kc x xc n lc : Nat} {mo lo : Option Addr} {zss : List (List Int)} (h : La W B hb M mo kn kc x xc n zss) (hl : Rb w0 B lo n zss) : Rs W (some ⟨x, 0, none⟩) n zss := by
  refine ⟨hl.len, hl.room, fun h0 => ⟨x, 0, rfl, ?_, fun k hk => ?_⟩⟩
  · obtain ⟨_, _, ⟨cx, fx, sx⟩, _⟩ := h.hv.xr.form
    exact (Array.getElem?_eq_some_iff.1 fx).1
  · obtain ⟨m, g, L, c, r1, r2, r3, r4, r5, r6, r7⟩ := h.rows k hk
    obtain ⟨b, off, _, _, hcs⟩ := hl.cells h0
    obtain ⟨A, L', C, cA, rA, sA, bA, lA⟩ := hcs k hk
    have hLL : L' = L := by have := rA.len; omega
    subst hLL
    refine ⟨some ⟨g, 0, none⟩, L', c, by rw [Nat.zero_add]; exact r4, rd_marked r6 r3 rA, ⟨fun e => (by cases e), by omega, r6.le⟩⟩

set_option maxHeartbeats 16000000 in
set_option maxRecDepth 20000 in
theorem plays_7 (hb B : Nat) (mo xo : Option Addr) (kn kc xn xc : Nat) (so to' lo : Option Addr) (sn sc tn tc n lc : Nat) (N : Int) (zss : List (List Int)) (w : World) (h : Hv w B hb mo kn kc xo xn xc) (hl : Rb w B lo n zss) (hs : Sl lo n lc) (hn : n ≤ 4194304) (hB : B ≤ w.heap.size) :
    Calls Try.prog 7 #[.pointer (some ⟨hb, 0, none⟩), .agg #[.int .i64 7, .slice so sn sc, .slice to' tn tc, .int .i64 N, .slice lo n lc]] w fun e w' => e = .returned (.bool true) ∧ Kn B hb w w' ∧ ∃ mo' kn' kc' xo' xn' xc', Hv w' B hb mo' kn' kc' xo' xn' xc' := by
  have k0 := box_below w (.cells #[.int .i64 7, .slice so sn sc, .slice to' tn tc, .int .i64 N, .slice lo n lc] 37)
  have z0 := allocNew w (.cells #[.int .i64 7, .slice so sn sc, .slice to' tn tc, .int .i64 N, .slice lo n lc] 37)
  have hs0 : (w.alloc (.cells #[.int .i64 7, .slice so sn sc, .slice to' tn tc, .int .i64 N, .slice lo n lc] 37)).heap.size = w.heap.size + 1 := World.size_alloc _ _
  have h1 := h.grown (grownN k0)
  have hl1 := hl.low (k0.mono hB)
  have hB1 : B ≤ (w.alloc (.cells #[.int .i64 7, .slice so sn sc, .slice to' tn tc, .int .i64 N, .slice lo n lc] 37)).heap.size := by omega
  have cL := list_any hb B mo xo kn kc xn xc lo n lc zss _ h1 hl1 hs hn hB1
  have hbs := h.base
  have HK0 : Hid (Kn B hb w (w.alloc (.cells #[.int .i64 7, .slice so sn sc, .slice to' tn tc, .int .i64 N, .slice lo n lc] 37))) := Kn.grown (grownN k0)
  have HKd : Hid (¬ Kd (w.alloc (.cells #[.int .i64 7, .slice so sn sc, .slice to' tn tc, .int .i64 N, .slice lo n lc] 37)) B hb w.heap.size) := by
    rintro ⟨_, e | ⟨cur, t, e, ht⟩⟩
    · omega
    · rw [z0] at e
      cases e
      rcases ht with e | e | e <;> exact absurd e (by decide)
  obtain ⟨y0, y1, y2, y3, y4⟩ := box5 z0
  have HZ := (show Hid _ from z0)
  have HS0 := (show Hid _ from hs0)
  have HL1 := (show Hid _ from hl1)
  have HB1 := (show Hid _ from hB1)
  clear h h1 hl hl1 k0 z0 hs0 hB1 hbs
  go_enter Try.func7, Try.ntmps7
  go_upto_region 30 with fail
  generalize w.alloc (.cells #[.int .i64 7, .slice so sn sc, .slice to' tn tc, .int .i64 N, .slice lo n lc] 37) = W1 at *
  go_upto_region 31 with (first
    | (go_at_call 26; (with_reducible refine cL.mono ?_); rintro e w2 ⟨mo2, kn2, kc2, x2, xc2, rfl, L2, K2⟩; have hb2 : w2.heap[w.heap.size]? = _ := (K2.block w.heap.size (by have := HS0.out; omega) HKd.out).trans HZ.out; have hl2 := HL1.out.low (K2.below HB1.out); have cC := cover_any _ n xc2 zss w2 (L2.rs (lc := lc) hl2))
    | (go_at_call 13; (with_reducible refine cC.mono ?_); rintro e w3 ⟨co, kk, cc, rfl, F3, B3⟩))
  have s2 := K2.size
  have hB2 : B ≤ w2.heap.size := Nat.le_trans HB1.out s2
  have hx2 : x2 < w2.heap.size := by
    obtain ⟨_, _, ⟨cx, fx, sx⟩, _⟩ := L2.hv.xr.form
    exact (Array.getElem?_eq_some_iff.1 fx).1
  have hbox : w.heap.size < w2.heap.size := by have := HS0.out; omega
  have hb3 := (B3.block w.heap.size hbox).trans hb2
  obtain ⟨t0, t1, t2, t3, t4⟩ := box5 hb3
  have hl3 := hl2.low (B3.mono hB2)
  have hB3 : B ≤ w3.heap.size := Nat.le_trans hB2 B3.size
  have cR := refCover_any lo n lc zss w3 (hl3.rs hB3)
  clear y0 y1 y2 y3 y4 cL cC
  go_upto_region 32 with (go_at_call 27; (with_reducible refine cR.mono ?_); rintro e w4 ⟨co4, kk4, cc4, rfl, F4, B4⟩)
  have hb4 := (B4.block w.heap.size (Nat.lt_of_lt_of_le hbox B3.size)).trans hb3
  obtain ⟨v0, v1, v2, v3, v4⟩ := box5 hb4
  have D4 : Below w2.heap.size w2 w4 := B3.trans (B4.mono B3.size)
  have cK := listKept_any hb B w2.heap.size mo2 kn2 kc2 x2 xc2 lo n lc zss w4 (L2.grown (grownN D4)) (hl3.low (B4.mono hB3)) D4.size hx2 hn (Nat.le_trans hB2 D4.size)
  have HF3 : Hid (Fr w3 w2.heap.size co kk cc (covL zss)) := F3
  have HF4 : Hid (Fr w4 w3.heap.size co4 kk4 cc4 (covL zss)) := F4
  have HB4 : Hid (Below w3.heap.size w3 w4) := B4
  have HB3 : Hid (Below w2.heap.size w2 w3) := B3
  have HK2 : Hid (Kn B hb W1 w2) := K2
  clear t0 t1 t2 t3 t4 cR F3 F4 B4 B3 K2 L2 hl2 hl3 hb2 hb3
  go_wp2_with (first
    | (go_at_call 28; (with_reducible refine cK.mono ?_); rintro e w5 ⟨rfl, H5, K5⟩; have R5 := (HF3.out.rd.below HB4.out (Nat.le_refl _)).keepT K5 (fun _ b off e t => by have := HF3.out.ge b off e; have := t.1; omega); have R6 := HF4.out.rd.keepT K5 (fun _ b off e t => by have := HF4.out.ge b off e; have := t.1; have := HB3.out.size; omega); have cE := eqInts_any co co4 kk kk4 cc cc4 _ _ _ R5 R6; rw [eqB_self] at cE)
    | (go_at_call 15; (with_reducible refine cE.mono ?_); rintro e w6 ⟨rfl, q, hq⟩; have D6 : w5.grownBy w6 none := (by rw [hq]; exact grownN (below_drewN (Below.refl _ _) q)); clear hq))
  go_ret
  exact ⟨rfl, HK0.out.trans (HK2.out.trans ((Kn.grown (grownN HB3.out)).trans ((Kn.grown (grownN HB4.out)).trans ((Kn.keep K5 (fun p _ t => t.2)).trans (Kn.grown D6))))), mo2, kn2, kc2, _, _, xc2, H5.grown D6⟩
end Go.Proofs.Ytndjlbedfccnjaa
