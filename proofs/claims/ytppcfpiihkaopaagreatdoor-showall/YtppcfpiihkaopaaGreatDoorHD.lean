
/- Layer 10's law: one call of a run. -/

import Derived.Test.YtppcfpiihkaopaaGreatDoorHC

import Derived.Test.YtppcfpiihkaopaaGreatDoorWI

namespace Go.Proofs.YtppcfpiihkaopaaGreatDoor

open Go.RowKit

set_option linter.unusedVariables false

theorem box4Z {W : World} {g : Nat} {a b c d : Value} {t : TypeId} (h : W.heap[g]? = some (.cells #[a, b, c, d] t (0, 0))) :
    (W.cell? ⟨g, 0, none⟩ = some a ∧ W.cell? ⟨g, 1, none⟩ = some b ∧ W.cell? ⟨g, 2, none⟩ = some c ∧ W.cell? ⟨g, 3, none⟩ = some d) :=
  ⟨(cell_of_row W g 0 _ t (0, 0) h).trans rfl, (cell_of_row W g 1 _ t (0, 0) h).trans rfl, (cell_of_row W g 2 _ t (0, 0) h).trans rfl, (cell_of_row W g 3 _ t (0, 0) h).trans rfl⟩

theorem size4_any (so lo : Option Addr) (sn sc n cap : Nat) (w : World) (hsm : sn ≤ 17592186044416) (hnm : n ≤ 17592186044416) :
    Calls Tryz.prog 12 #[.agg #[.slice so sn sc, .slice lo n cap]] w fun e w' => e = .returned (.int .i64 ((sn : Int) + (n : Int))) ∧ Below w.heap.size w w' := by
  have k0 := box_below w (.cells #[.slice so sn sc, .slice lo n cap] 36)
  have z0 := allocNew w (.cells #[.slice so sn sc, .slice lo n cap] 36)
  obtain ⟨y0, y1, y2, y3⟩ := box2 z0
  go_enter Tryz.func12, Tryz.ntmps12
  go_wp2
  go_ret
  exact ⟨rfl, k0⟩
theorem opsz10_any (KK : Int) (so lo : Option Addr) (sn sc n cap : Nat) (s : List UInt8) (w : World) (hsm : sn ≤ 17592186044416) (hnm : n ≤ 17592186044416) (hl : s.length ≤ 140737488351232) :
    Calls Tryz.prog 6 #[.agg #[.int .i64 KK, .slice so sn sc, .slice lo n cap, .string ⟨s.toArray⟩]] w fun e w' => e = .returned (.int .i64 ((sn : Int) + (n : Int) + (s.length : Int))) ∧ Below w.heap.size w w' := by
  have k0 := box_below w (.cells #[.int .i64 KK, .slice so sn sc, .slice lo n cap, .string ⟨s.toArray⟩] 38)
  have z0 := allocNew w (.cells #[.int .i64 KK, .slice so sn sc, .slice lo n cap, .string ⟨s.toArray⟩] 38)
  obtain ⟨y0, y1, y2, y3⟩ := box4Z z0
  go_enter Tryz.func6, Tryz.ntmps6
  go_upto_region 1 with fail
  generalize w.alloc (.cells #[.int .i64 KK, .slice so sn sc, .slice lo n cap, .string ⟨s.toArray⟩] 38) = W1 at *
  have Dr : Below W1.heap.size W1 W1.drew := (Below.refl _ W1).drew
  have KD := k0.trans (Dr.mono k0.size)
  have cS := size4_any so lo sn sc n cap W1.drew hsm hnm
  have zl : w.heap.size < W1.drew.heap.size := (Array.getElem?_eq_some_iff.1 z0).1
  go_region_held3 (fun V => V.cell? ⟨w.heap.size, 1, none⟩ = some (.slice so sn sc) ∧ V.cell? ⟨w.heap.size, 2, none⟩ = some (.slice lo n cap) ∧ V.cell? ⟨w.heap.size, 3, none⟩ = some (.string ⟨s.toArray⟩) ∧ Below w.heap.size w V) (first | assumption | exact ⟨y1, y2, y3, k0⟩ | exact ⟨y1, y2, y3, KD⟩)
    (first
      | (go_at_call 12; (with_reducible refine cS.mono ?_); rintro e w1 ⟨rfl, k1⟩; obtain ⟨v0, v1, v2, v3⟩ := box4Z ((k1.block w.heap.size zl).trans z0); have S1 : w1.cell? ⟨w.heap.size, 1, none⟩ = some (.slice so sn sc) ∧ w1.cell? ⟨w.heap.size, 2, none⟩ = some (.slice lo n cap) ∧ w1.cell? ⟨w.heap.size, 3, none⟩ = some (.string ⟨s.toArray⟩) ∧ Below w.heap.size w w1 := ⟨v1, v2, v3, KD.trans (k1.mono KD.size)⟩))
  go_wp2
  go_ret
  refine ⟨?_, S1.2.2.2⟩
  have hwr : IntKind.i64.wrap ((sn : Int) + (n : Int) + (s.length : Int)) = (sn : Int) + (n : Int) + (s.length : Int) := by rw [IntKind.wrap_i64]; omega
  show Ending.returned (Value.int .i64 (IntKind.i64.wrap ((sn : Int) + (n : Int) + (s.length : Int)))) = _
  rw [hwr]
theorem Hd.belowB {w W : World} {B gn : Nat} {p : Addr} {go : Option Addr} (h : Hd w B p go gn) (k : Below w.heap.size w W) : Hd W B p go gn := by
  have hp : p.block < w.heap.size := World.block_lt_of_cell? w _ h.cell
  refine ⟨(k.cell hp).trans h.cell, (World.frozen?_of_block (a := p) (k.block _ hp)).trans h.frozen, h.base, ?_⟩
  rcases h.row with e | ⟨g, e, h1, h2, h3⟩
  · exact .inl e
  · exact .inr ⟨g, e, h1, h2, h3.belowB k⟩
theorem HdA.belowB {w W : World} {B gn : Nat} {p : Addr} {go : Option Addr} (h : HdA w B p go gn) (k : Below w.heap.size w W) : HdA W B p go gn := by
  have hp : p.block < w.heap.size := World.block_lt_of_cell? w _ h.cell
  refine ⟨(k.cell hp).trans h.cell, (World.frozen?_of_block (a := p) (k.block _ hp)).trans h.frozen, h.base, ?_⟩
  rcases h.row with e | ⟨g, e, h1, h2, h3⟩
  · exact .inl e
  · exact .inr ⟨g, e, h1, h2, h3.belowB k⟩
theorem Laid.belowB {w W V : World} {B hb sn g c n g2 c2 : Nat} {S A : List Int} (h : Laid w W B hb sn S g c n A g2 c2) (k : Below W.heap.size W V) (hB : B ≤ W.heap.size) (hh : hb < W.heap.size) : Laid w V B hb sn S g c n A g2 c2 :=
  ⟨h.room, h.room2, h.base, h.ne, h.row.belowB k, h.row2.belowB k, ⟨(k.cell (p := ⟨hb, 0, none⟩) hh).trans h.cell.1, (World.frozen?_of_block (a := ⟨hb, 0, none⟩) (k.block _ hh)).trans h.cell.2⟩, ⟨(k.cell (p := ⟨hb, 1, none⟩) hh).trans h.cell2.1, (World.frozen?_of_block (a := ⟨hb, 1, none⟩) (k.block _ hh)).trans h.cell2.2⟩, h.bel.trans (k.mono hB), h.kin.trans (Kin.of k)⟩
theorem Laid.rd {w W : World} {B hb sn g c n g2 c2 : Nat} {S A : List Int} (h : Laid w W B hb sn S g c n A g2 c2) (hS : S.length = sn ∧ sn * 8 ≤ 140737488351232 ∧ ∀ k, k < sn → -9223372036854775808 ≤ nth S k ∧ nth S k ≤ 9223372036854775807) : Rd W (some ⟨g, 0, none⟩) sn S :=
  ⟨hS.1, hS.2.1, hS.2.2, fun _ => ⟨g, 0, rfl, h.row.lt, fun k hk => by
    have := h.row.cell (k := k) (by have := h.room; omega)
    rw [Nat.zero_add, this]
    unfold marked; rw [if_pos hk]⟩⟩
theorem Laid.rd2 {w W : World} {B hb sn g c n g2 c2 : Nat} {S A : List Int} (h : Laid w W B hb sn S g c n A g2 c2) (hA : A.length = n ∧ n * 8 ≤ 140737488351232 ∧ ∀ k, k < n → -9223372036854775808 ≤ nth A k ∧ nth A k ≤ 9223372036854775807) : Rd W (some ⟨g2, 0, none⟩) n A :=
  ⟨hA.1, hA.2.1, hA.2.2, fun _ => ⟨g2, 0, rfl, h.row2.lt, fun k hk => by
    have := h.row2.cell (k := k) (by have := h.room2; omega)
    rw [Nat.zero_add, this]
    unfold markedA; rw [if_pos hk]⟩⟩
theorem text_both (so ao : Option Addr) (sn sc an ac : Nat) (S A : List Int) (w : World) (h : Rd w so sn S) (g : Rd w ao an A) (T : Tb w) :
    Calls Tryz.prog 8 #[.agg #[.slice so sn sc, .slice ao an ac]] w fun e w' => e = .returned (.tuple #[.string ⟨(txT S A).toArray⟩, .int .i64 (flE S A)]) ∧ Below w.heap.size w w' := by
  by_cases hm : mayA S A = 0
  · rw [show txT S A = txt S A from if_pos hm, show flE S A = 0 from if_pos hm]
    exact text_ok so ao sn sc an ac S A w h g hm T
  · rw [show txT S A = [] from if_neg hm, show flE S A = 1 from if_neg hm]
    exact text_no so ao sn sc an ac S A w h g hm
set_option maxHeartbeats 16000000 in
set_option maxRecDepth 20000 in
theorem plays_1 (hb B : Nat) (go : Option Addr) (gn : Nat) (to' : Option Addr) (tn : Nat) (so lo : Option Addr) (sn sc n cap : Nat) (S A : List Int) (s : List UInt8) (w : World) (hi : Hd w B ⟨hb, 0, none⟩ go gn) (ha : HdA w B ⟨hb, 1, none⟩ to' tn)
    (hS : Rd w so sn S) (sS : Sl so sn sc) (hA : Rd w lo n A) (hs : Sl lo n cap) (lbS : 0 < sn → ∀ b off, so = some ⟨b, off, none⟩ → b < B) (lbA : 0 < n → ∀ b off, lo = some ⟨b, off, none⟩ → b < B) (hsm : sn ≤ 100000000) (hnm : n ≤ 100000000) (hB : B ≤ w.heap.size) (TB : ∀ V, Below B w V → Tb V) (hl : s.length ≤ 9223372036854775807) :
    Calls Tryz.prog 7 #[.pointer (some ⟨hb, 0, none⟩), .agg #[.int .i64 1, .slice so sn sc, .slice lo n cap, .string ⟨s.toArray⟩]] w fun e w' => e = .returned (.bool true) ∧ ∃ g c g2 c2, Free w w' B hb g c g2 c2 := by
  have k0 := box_below w (.cells #[.int .i64 1, .slice so sn sc, .slice lo n cap, .string ⟨s.toArray⟩] 38)
  have z0 := allocNew w (.cells #[.int .i64 1, .slice so sn sc, .slice lo n cap, .string ⟨s.toArray⟩] 38)
  have hs0 : (w.alloc (.cells #[.int .i64 1, .slice so sn sc, .slice lo n cap, .string ⟨s.toArray⟩] 38)).heap.size = w.heap.size + 1 := World.size_alloc _ _
  have hbw : hb < w.heap.size := World.block_lt_of_cell? w _ hi.cell
  have hdk : ∀ V, Below w.heap.size w V → Hd V B ⟨hb, 0, none⟩ go gn := fun V k => hi.belowB k
  have hak : ∀ V, Below w.heap.size w V → HdA V B ⟨hb, 1, none⟩ to' tn := fun V k => ha.belowB k
  have KB : Below B w (w.alloc (.cells #[.int .i64 1, .slice so sn sc, .slice lo n cap, .string ⟨s.toArray⟩] 38)) := k0.mono hB
  have hB1 : B ≤ (w.alloc (.cells #[.int .i64 1, .slice so sn sc, .slice lo n cap, .string ⟨s.toArray⟩] 38)).heap.size := by omega
  have cA := array_any hb B go gn to' tn so lo sn sc n cap S A (w.alloc (.cells #[.int .i64 1, .slice so sn sc, .slice lo n cap, .string ⟨s.toArray⟩] 38)) (hi.belowB k0) (ha.belowB k0) (hS.below k0 (Nat.le_refl _)) sS (hA.below k0 (Nat.le_refl _)) hs lbS lbA hsm hnm hB1
  have HK0 : Hid (Kin w (w.alloc (.cells #[.int .i64 1, .slice so sn sc, .slice lo n cap, .string ⟨s.toArray⟩] 38)) hb) := Kin.of k0
  obtain ⟨y0, y1, y2, y3⟩ := box4Z z0
  have hS3 := (⟨hS.len, hS.room, hS.num⟩ : S.length = sn ∧ sn * 8 ≤ 140737488351232 ∧ ∀ k, k < sn → -9223372036854775808 ≤ nth S k ∧ nth S k ≤ 9223372036854775807)
  have hA3 := (⟨hA.len, hA.room, hA.num⟩ : A.length = n ∧ n * 8 ≤ 140737488351232 ∧ ∀ k, k < n → -9223372036854775808 ≤ nth A k ∧ nth A k ≤ 9223372036854775807)
  have cP := fun V g c g2 c2 (L : Laid (w.alloc (.cells #[.int .i64 1, .slice so sn sc, .slice lo n cap, .string ⟨s.toArray⟩] 38)) V B hb sn S g c n A g2 c2) (T : Tb V) => text_both (some ⟨g, 0, none⟩) (some ⟨g2, 0, none⟩) sn c n c2 S A V (L.rd hS3) (L.rd2 hA3) T
  have cD := fun V (k : Below B w V) => rtext_any so lo sn sc n cap S A V (hS.low lbS k) (hA.low lbA k) (TB V k)
  have cK := fun V g c g2 c2 (k : Below B w V) (L : Laid (w.alloc (.cells #[.int .i64 1, .slice so sn sc, .slice lo n cap, .string ⟨s.toArray⟩] 38)) V B hb sn S g c n A g2 c2) => keptA_any hb B g c g2 c2 so lo sn sc n cap S A V (by have := k.size; omega) L.base L.ne L.row L.row2 (by have := L.room; omega) (by have := L.room2; omega) L.cell L.cell2 (hS.low lbS k) (hA.low lbA k) lbS lbA
  have HBB : Hid (B ≤ w.heap.size ∧ hb < w.heap.size ∧ w.heap.size ≤ (w.alloc (.cells #[.int .i64 1, .slice so sn sc, .slice lo n cap, .string ⟨s.toArray⟩] 38)).heap.size) := ⟨hB, hbw, by omega⟩
  have HTB : Hid (∀ V, Below B w V → Tb V) := TB
  have HZ : Hid ((w.alloc (.cells #[.int .i64 1, .slice so sn sc, .slice lo n cap, .string ⟨s.toArray⟩] 38)).heap[w.heap.size]? = some (.cells #[.int .i64 1, .slice so sn sc, .slice lo n cap, .string ⟨s.toArray⟩] 38 (0, 0))) := z0
  clear hdk hak hi ha hS hA TB
  go_enter Tryz.func7, Tryz.ntmps7
  go_wp2_with (first
    | (go_at_call 13; (with_reducible refine cA.mono ?_); rintro e w1 ⟨g, c, g2, c2, rfl, L1⟩; have K1 := KB.trans L1.bel; have T1 := HTB.out _ K1)
    | (go_at_call 8; (with_reducible refine (cP _ g c g2 c2 L1 T1).mono ?_); rintro e w2 ⟨rfl, k2⟩; have B1 := HBB.out; have hb1 := L1.bel.size; have L2 := L1.belowB k2 (by omega) (by omega); have K2 := K1.trans (k2.mono (by omega)); have zz2 := (L2.kin.2 _ _ _ HZ.out (by decide) (by decide) (by omega)).trans HZ.out; obtain ⟨x0, x1, x2, x3⟩ := box4Z zz2)
    | (go_at_call 14; (with_reducible refine (cD _ K2).mono ?_); rintro e w3 ⟨rfl, k3⟩; have hb2 := k2.size; have L3 := L2.belowB k3 (by omega) (by omega); have K3 := K2.trans (k3.mono (by omega)); have zz3 := (L3.kin.2 _ _ _ HZ.out (by decide) (by decide) (by omega)).trans HZ.out; obtain ⟨v0, v1, v2, v3⟩ := box4Z zz3; have cK3 := cK _ g c g2 c2 K3 L3)
    | (go_at_call 15; (with_reducible refine cK3.mono ?_); rintro e w4 ⟨rfl, F4⟩))
  go_ret
  exact ⟨rfl, g, c, g2, c2, F4.hd, F4.hdA, K3.trans F4.bel, HK0.out.trans (L3.kin.trans F4.kin)⟩
set_option maxHeartbeats 16000000 in
set_option maxRecDepth 20000 in
theorem plays_2 (hb B : Nat) (go : Option Addr) (gn : Nat) (to' : Option Addr) (tn : Nat) (so lo : Option Addr) (sn sc n cap : Nat) (S A : List Int) (s : List UInt8) (w : World) (hi : Hd w B ⟨hb, 0, none⟩ go gn) (ha : HdA w B ⟨hb, 1, none⟩ to' tn)
    (hS : Rd w so sn S) (sS : Sl so sn sc) (hA : Rd w lo n A) (hs : Sl lo n cap) (lbS : 0 < sn → ∀ b off, so = some ⟨b, off, none⟩ → b < B) (lbA : 0 < n → ∀ b off, lo = some ⟨b, off, none⟩ → b < B) (hsm : sn ≤ 100000000) (hnm : n ≤ 100000000) (hB : B ≤ w.heap.size) (TB : ∀ V, Below B w V → Tb V) (hl : s.length ≤ 9223372036854775807) :
    Calls Tryz.prog 7 #[.pointer (some ⟨hb, 0, none⟩), .agg #[.int .i64 2, .slice so sn sc, .slice lo n cap, .string ⟨s.toArray⟩]] w fun e w' => e = .returned (.bool true) ∧ ∃ g c g2 c2, Free w w' B hb g c g2 c2 := by
  have k0 := box_below w (.cells #[.int .i64 2, .slice so sn sc, .slice lo n cap, .string ⟨s.toArray⟩] 38)
  have z0 := allocNew w (.cells #[.int .i64 2, .slice so sn sc, .slice lo n cap, .string ⟨s.toArray⟩] 38)
  have hs0 : (w.alloc (.cells #[.int .i64 2, .slice so sn sc, .slice lo n cap, .string ⟨s.toArray⟩] 38)).heap.size = w.heap.size + 1 := World.size_alloc _ _
  have hbw : hb < w.heap.size := World.block_lt_of_cell? w _ hi.cell
  have hdk : ∀ V, Below w.heap.size w V → Hd V B ⟨hb, 0, none⟩ go gn := fun V k => hi.belowB k
  have hak : ∀ V, Below w.heap.size w V → HdA V B ⟨hb, 1, none⟩ to' tn := fun V k => ha.belowB k
  have KB : Below B w (w.alloc (.cells #[.int .i64 2, .slice so sn sc, .slice lo n cap, .string ⟨s.toArray⟩] 38)) := k0.mono hB
  have hB1 : B ≤ (w.alloc (.cells #[.int .i64 2, .slice so sn sc, .slice lo n cap, .string ⟨s.toArray⟩] 38)).heap.size := by omega
  have cA := array_any hb B go gn to' tn so lo sn sc n cap S A (w.alloc (.cells #[.int .i64 2, .slice so sn sc, .slice lo n cap, .string ⟨s.toArray⟩] 38)) (hi.belowB k0) (ha.belowB k0) (hS.below k0 (Nat.le_refl _)) sS (hA.below k0 (Nat.le_refl _)) hs lbS lbA hsm hnm hB1
  have HK0 : Hid (Kin w (w.alloc (.cells #[.int .i64 2, .slice so sn sc, .slice lo n cap, .string ⟨s.toArray⟩] 38)) hb) := Kin.of k0
  obtain ⟨y0, y1, y2, y3⟩ := box4Z z0
  have hS3 := (⟨hS.len, hS.room, hS.num⟩ : S.length = sn ∧ sn * 8 ≤ 140737488351232 ∧ ∀ k, k < sn → -9223372036854775808 ≤ nth S k ∧ nth S k ≤ 9223372036854775807)
  have hA3 := (⟨hA.len, hA.room, hA.num⟩ : A.length = n ∧ n * 8 ≤ 140737488351232 ∧ ∀ k, k < n → -9223372036854775808 ≤ nth A k ∧ nth A k ≤ 9223372036854775807)
  have cP := fun V g c g2 c2 (L : Laid (w.alloc (.cells #[.int .i64 2, .slice so sn sc, .slice lo n cap, .string ⟨s.toArray⟩] 38)) V B hb sn S g c n A g2 c2) (T : Tb V) => flat_any (some ⟨g, 0, none⟩) (some ⟨g2, 0, none⟩) sn c n c2 S A V (L.rd hS3) (L.rd2 hA3) T
  have cD := fun V (k : Below B w V) => rflat_any so lo sn sc n cap S A V (hS.low lbS k) (hA.low lbA k) (TB V k)
  have cK := fun V g c g2 c2 (k : Below B w V) (L : Laid (w.alloc (.cells #[.int .i64 2, .slice so sn sc, .slice lo n cap, .string ⟨s.toArray⟩] 38)) V B hb sn S g c n A g2 c2) => keptA_any hb B g c g2 c2 so lo sn sc n cap S A V (by have := k.size; omega) L.base L.ne L.row L.row2 (by have := L.room; omega) (by have := L.room2; omega) L.cell L.cell2 (hS.low lbS k) (hA.low lbA k) lbS lbA
  have HBB : Hid (B ≤ w.heap.size ∧ hb < w.heap.size ∧ w.heap.size ≤ (w.alloc (.cells #[.int .i64 2, .slice so sn sc, .slice lo n cap, .string ⟨s.toArray⟩] 38)).heap.size) := ⟨hB, hbw, by omega⟩
  have HTB : Hid (∀ V, Below B w V → Tb V) := TB
  have HZ : Hid ((w.alloc (.cells #[.int .i64 2, .slice so sn sc, .slice lo n cap, .string ⟨s.toArray⟩] 38)).heap[w.heap.size]? = some (.cells #[.int .i64 2, .slice so sn sc, .slice lo n cap, .string ⟨s.toArray⟩] 38 (0, 0))) := z0
  clear hdk hak hi ha hS hA TB
  go_enter Tryz.func7, Tryz.ntmps7
  go_wp2_with (first
    | (go_at_call 13; (with_reducible refine cA.mono ?_); rintro e w1 ⟨g, c, g2, c2, rfl, L1⟩; have K1 := KB.trans L1.bel; have T1 := HTB.out _ K1)
    | (go_at_call 9; (with_reducible refine (cP _ g c g2 c2 L1 T1).mono ?_); rintro e w2 ⟨rfl, k2⟩; have B1 := HBB.out; have hb1 := L1.bel.size; have L2 := L1.belowB k2 (by omega) (by omega); have K2 := K1.trans (k2.mono (by omega)); have zz2 := (L2.kin.2 _ _ _ HZ.out (by decide) (by decide) (by omega)).trans HZ.out; obtain ⟨x0, x1, x2, x3⟩ := box4Z zz2)
    | (go_at_call 16; (with_reducible refine (cD _ K2).mono ?_); rintro e w3 ⟨rfl, k3⟩; have hb2 := k2.size; have L3 := L2.belowB k3 (by omega) (by omega); have K3 := K2.trans (k3.mono (by omega)); have zz3 := (L3.kin.2 _ _ _ HZ.out (by decide) (by decide) (by omega)).trans HZ.out; obtain ⟨v0, v1, v2, v3⟩ := box4Z zz3; have cK3 := cK _ g c g2 c2 K3 L3)
    | (go_at_call 15; (with_reducible refine cK3.mono ?_); rintro e w4 ⟨rfl, F4⟩))
  go_ret
  exact ⟨rfl, g, c, g2, c2, F4.hd, F4.hdA, K3.trans F4.bel, HK0.out.trans (L3.kin.trans F4.kin)⟩
theorem eqB_self (l : List Int) : eqB l l = true := eqB_yes rfl (fun _ _ => rfl)
theorem eqA_self (s a : List Int) : eqA s a s a = true := by rw [eqA_at (eqB_self s)]; exact eqB_self a
set_option maxHeartbeats 16000000 in
set_option maxRecDepth 20000 in
theorem plays_3 (hb B : Nat) (go : Option Addr) (gn : Nat) (to' : Option Addr) (tn : Nat) (so lo : Option Addr) (sn sc n cap : Nat) (S A : List Int) (s : List UInt8) (w : World) (hi : Hd w B ⟨hb, 0, none⟩ go gn) (ha : HdA w B ⟨hb, 1, none⟩ to' tn)
    (hS : Rd w so sn S) (sS : Sl so sn sc) (hA : Rd w lo n A) (hs : Sl lo n cap) (lbS : 0 < sn → ∀ b off, so = some ⟨b, off, none⟩ → b < B) (lbA : 0 < n → ∀ b off, lo = some ⟨b, off, none⟩ → b < B) (hsm : sn ≤ 100000000) (hnm : n ≤ 100000000) (hB : B ≤ w.heap.size) (TB : ∀ V, Below B w V → Tb V) (hl : s.length ≤ 9223372036854775807) :
    Calls Tryz.prog 7 #[.pointer (some ⟨hb, 0, none⟩), .agg #[.int .i64 3, .slice so sn sc, .slice lo n cap, .string ⟨s.toArray⟩]] w fun e w' => e = .returned (.bool true) ∧ Hd w' B ⟨hb, 0, none⟩ go gn ∧ HdA w' B ⟨hb, 1, none⟩ to' tn ∧ Below w.heap.size w w' := by
  have k0 := box_below w (.cells #[.int .i64 3, .slice so sn sc, .slice lo n cap, .string ⟨s.toArray⟩] 38)
  have z0 := allocNew w (.cells #[.int .i64 3, .slice so sn sc, .slice lo n cap, .string ⟨s.toArray⟩] 38)
  have hs0 : (w.alloc (.cells #[.int .i64 3, .slice so sn sc, .slice lo n cap, .string ⟨s.toArray⟩] 38)).heap.size = w.heap.size + 1 := World.size_alloc _ _
  have hbw : hb < w.heap.size := World.block_lt_of_cell? w _ hi.cell
  have hdk : ∀ V, Below w.heap.size w V → Hd V B ⟨hb, 0, none⟩ go gn := fun V k => hi.belowB k
  have hak : ∀ V, Below w.heap.size w V → HdA V B ⟨hb, 1, none⟩ to' tn := fun V k => ha.belowB k
  have KB : Below B w (w.alloc (.cells #[.int .i64 3, .slice so sn sc, .slice lo n cap, .string ⟨s.toArray⟩] 38)) := k0.mono hB
  have hB1 : B ≤ (w.alloc (.cells #[.int .i64 3, .slice so sn sc, .slice lo n cap, .string ⟨s.toArray⟩] 38)).heap.size := by omega
  have cA := array_any hb B go gn to' tn so lo sn sc n cap S A (w.alloc (.cells #[.int .i64 3, .slice so sn sc, .slice lo n cap, .string ⟨s.toArray⟩] 38)) (hi.belowB k0) (ha.belowB k0) (hS.below k0 (Nat.le_refl _)) sS (hA.below k0 (Nat.le_refl _)) hs lbS lbA hsm hnm hB1
  have HK0 : Hid (Kin w (w.alloc (.cells #[.int .i64 3, .slice so sn sc, .slice lo n cap, .string ⟨s.toArray⟩] 38)) hb) := Kin.of k0
  obtain ⟨y0, y1, y2, y3⟩ := box4Z z0
  clear cA HK0
  have cP := fun V (k : Below B w V) => read_any s V hl (TB V k)
  have cD := fun V => rread_any s V hl
  have HZ : Hid ((w.alloc (.cells #[.int .i64 3, .slice so sn sc, .slice lo n cap, .string ⟨s.toArray⟩] 38)).heap[w.heap.size]? = some (.cells #[.int .i64 3, .slice so sn sc, .slice lo n cap, .string ⟨s.toArray⟩] 38 (0, 0))) := z0
  have HH : Hid (Hd w B ⟨hb, 0, none⟩ go gn ∧ HdA w B ⟨hb, 1, none⟩ to' tn) := ⟨hi, ha⟩
  have HB1 : Hid (B ≤ w.heap.size) := hB
  clear hi ha hdk hak hS hA TB
  go_enter Tryz.func7, Tryz.ntmps7
  have AB : ∀ (V : World) (x y z : Nat) (p q : Option Addr) (c d : Nat), Below w.heap.size w V → V.heap[w.heap.size]? = some (.cells #[.int .i64 3, .slice so sn sc, .slice lo n cap, .string ⟨s.toArray⟩] 38 (0, 0)) → (V.alloc (.cells #[.slice p x c, .slice q y d] 36)).heap[w.heap.size]? = some (.cells #[.int .i64 3, .slice so sn sc, .slice lo n cap, .string ⟨s.toArray⟩] 38 (0, 0)) := fun V x y z p q c d k h => ((box_below V _).block w.heap.size (Array.getElem?_eq_some_iff.1 h).1).trans h
  go_wp2_with (first
    | (go_at_call 10; (with_reducible refine (cP _ KB).mono ?_); rintro e w1 ⟨o1, n1, c1, o2, n2, c2, rfl, f1, f2, k1⟩; have K1 := k0.trans (k1.mono k0.size); have zz := AB w1 n1 n2 0 o1 o2 c1 c2 K1 ((k1.block w.heap.size (Array.getElem?_eq_some_iff.1 HZ.out).1).trans HZ.out); obtain ⟨x0, x1, x2, x3⟩ := box4Z zz; have kb := box_below w1 (.cells #[.slice o1 n1 c1, .slice o2 n2 c2] 36); have K2 := K1.trans (kb.mono K1.size); have x4 := allocNew w1 (.cells #[.slice o1 n1 c1, .slice o2 n2 c2] 36); have f1' := f1.rd.below kb (Nat.le_refl _); have f2' := f2.rd.below kb (Nat.le_refl _))
    | (go_at_call 17; (with_reducible refine (cD _).mono ?_); rintro e w2 ⟨o3, n3, c3, o4, n4, c4, rfl, f3, f4, k2⟩; have K3 := K2.trans (k2.mono K2.size); have kc := box_below w2 (.cells #[.slice o3 n3 c3, .slice o4 n4 c4] 36); have K4 := K3.trans (kc.mono K3.size); have hxl := (Array.getElem?_eq_some_iff.1 x4).1; have x5 := (kc.block w1.heap.size (Nat.lt_of_lt_of_le hxl k2.size)).trans ((k2.block w1.heap.size hxl).trans x4); obtain ⟨a0, a1, _, _⟩ := box2 x5; obtain ⟨b0, b1, _, _⟩ := box2 (allocNew w2 (.cells #[.slice o3 n3 c3, .slice o4 n4 c4] 36)); have cE := eq4_any o1 o2 o3 o4 n1 c1 n2 c2 n3 c3 n4 c4 _ _ _ _ _ ((f1'.below k2 (Nat.le_refl _)).below kc (Nat.le_refl _)) ((f2'.below k2 (Nat.le_refl _)).below kc (Nat.le_refl _)) (f3.rd.below kc (Nat.le_refl _)) (f4.rd.below kc (Nat.le_refl _)); rw [eqA_self] at cE)
    | (go_at_call 11; (with_reducible refine cE.mono ?_); rintro e w3 ⟨rfl, k3⟩; have K5 := K4.trans (k3.mono K4.size)))
  go_ret
  exact ⟨rfl, HH.out.1.belowB K5, HH.out.2.belowB K5, K5⟩
set_option maxHeartbeats 16000000 in
set_option maxRecDepth 20000 in
theorem plays_0 (k : Int) (q1 : (k == 1) = false) (q2 : (k == 2) = false) (q3 : (k == 3) = false) (hb B : Nat) (go : Option Addr) (gn : Nat) (to' : Option Addr) (tn : Nat) (so lo : Option Addr) (sn sc n cap : Nat) (S A : List Int) (s : List UInt8) (w : World) (hi : Hd w B ⟨hb, 0, none⟩ go gn) (ha : HdA w B ⟨hb, 1, none⟩ to' tn)
    (hS : Rd w so sn S) (sS : Sl so sn sc) (hA : Rd w lo n A) (hs : Sl lo n cap) (lbS : 0 < sn → ∀ b off, so = some ⟨b, off, none⟩ → b < B) (lbA : 0 < n → ∀ b off, lo = some ⟨b, off, none⟩ → b < B) (hsm : sn ≤ 100000000) (hnm : n ≤ 100000000) (hB : B ≤ w.heap.size) (TB : ∀ V, Below B w V → Tb V) (hl : s.length ≤ 9223372036854775807) :
    Calls Tryz.prog 7 #[.pointer (some ⟨hb, 0, none⟩), .agg #[.int .i64 k, .slice so sn sc, .slice lo n cap, .string ⟨s.toArray⟩]] w fun e w' => e = .returned (.bool true) ∧ Hd w' B ⟨hb, 0, none⟩ go gn ∧ HdA w' B ⟨hb, 1, none⟩ to' tn ∧ Below w.heap.size w w' := by
  have k0 := box_below w (.cells #[.int .i64 k, .slice so sn sc, .slice lo n cap, .string ⟨s.toArray⟩] 38)
  have z0 := allocNew w (.cells #[.int .i64 k, .slice so sn sc, .slice lo n cap, .string ⟨s.toArray⟩] 38)
  have hs0 : (w.alloc (.cells #[.int .i64 k, .slice so sn sc, .slice lo n cap, .string ⟨s.toArray⟩] 38)).heap.size = w.heap.size + 1 := World.size_alloc _ _
  have hbw : hb < w.heap.size := World.block_lt_of_cell? w _ hi.cell
  have hdk : ∀ V, Below w.heap.size w V → Hd V B ⟨hb, 0, none⟩ go gn := fun V k => hi.belowB k
  have hak : ∀ V, Below w.heap.size w V → HdA V B ⟨hb, 1, none⟩ to' tn := fun V k => ha.belowB k
  have KB : Below B w (w.alloc (.cells #[.int .i64 k, .slice so sn sc, .slice lo n cap, .string ⟨s.toArray⟩] 38)) := k0.mono hB
  have hB1 : B ≤ (w.alloc (.cells #[.int .i64 k, .slice so sn sc, .slice lo n cap, .string ⟨s.toArray⟩] 38)).heap.size := by omega
  have cA := array_any hb B go gn to' tn so lo sn sc n cap S A (w.alloc (.cells #[.int .i64 k, .slice so sn sc, .slice lo n cap, .string ⟨s.toArray⟩] 38)) (hi.belowB k0) (ha.belowB k0) (hS.below k0 (Nat.le_refl _)) sS (hA.below k0 (Nat.le_refl _)) hs lbS lbA hsm hnm hB1
  have HK0 : Hid (Kin w (w.alloc (.cells #[.int .i64 k, .slice so sn sc, .slice lo n cap, .string ⟨s.toArray⟩] 38)) hb) := Kin.of k0
  obtain ⟨y0, y1, y2, y3⟩ := box4Z z0
  clear cA HK0
  have HH : Hid (Hd w B ⟨hb, 0, none⟩ go gn ∧ HdA w B ⟨hb, 1, none⟩ to' tn) := ⟨hi, ha⟩
  have KW : Below w.heap.size w (w.alloc (.cells #[.int .i64 k, .slice so sn sc, .slice lo n cap, .string ⟨s.toArray⟩] 38)) := k0
  clear hi ha hdk hak hS hA TB
  go_enter Tryz.func7, Tryz.ntmps7
  go_wp2
  go_ret
  exact ⟨rfl, HH.out.1.belowB KW, HH.out.2.belowB KW, KW⟩
/-- A hand that may be filled anew, whatever it holds. -/
def Fre (w : World) (B hb : Nat) : Prop := ∃ go gn to' tn, Hd w B ⟨hb, 0, none⟩ go gn ∧ HdA w B ⟨hb, 1, none⟩ to' tn
theorem plays_any (k : Int) (hb B : Nat) (so lo : Option Addr) (sn sc n cap : Nat) (S A : List Int) (s : List UInt8) (w : World) (hf : Fre w B hb)
    (hS : Rd w so sn S) (sS : Sl so sn sc) (hA : Rd w lo n A) (hs : Sl lo n cap) (lbS : 0 < sn → ∀ b off, so = some ⟨b, off, none⟩ → b < B) (lbA : 0 < n → ∀ b off, lo = some ⟨b, off, none⟩ → b < B) (hsm : sn ≤ 100000000) (hnm : n ≤ 100000000) (hB : B ≤ w.heap.size) (TB : ∀ V, Below B w V → Tb V) (hl : s.length ≤ 9223372036854775807) :
    Calls Tryz.prog 7 #[.pointer (some ⟨hb, 0, none⟩), .agg #[.int .i64 k, .slice so sn sc, .slice lo n cap, .string ⟨s.toArray⟩]] w fun e w' => e = .returned (.bool true) ∧ Fre w' B hb ∧ Below B w w' ∧ Kin w w' hb := by
  obtain ⟨go, gn, to', tn, hi, ha⟩ := hf
  by_cases c1 : k = 1
  · subst c1
    exact (plays_1 hb B go gn to' tn so lo sn sc n cap S A s w hi ha hS sS hA hs lbS lbA hsm hnm hB TB hl).mono fun e w' ⟨h, g, c, g2, c2, f⟩ => ⟨h, ⟨_, _, _, _, f.hd, f.hdA⟩, f.bel, f.kin⟩
  · by_cases c2 : k = 2
    · subst c2
      exact (plays_2 hb B go gn to' tn so lo sn sc n cap S A s w hi ha hS sS hA hs lbS lbA hsm hnm hB TB hl).mono fun e w' ⟨h, g, c, g2, c2, f⟩ => ⟨h, ⟨_, _, _, _, f.hd, f.hdA⟩, f.bel, f.kin⟩
    · by_cases c3 : k = 3
      · subst c3
        exact (plays_3 hb B go gn to' tn so lo sn sc n cap S A s w hi ha hS sS hA hs lbS lbA hsm hnm hB TB hl).mono fun e w' ⟨h, f1, f2, f3⟩ => ⟨h, ⟨_, _, _, _, f1, f2⟩, f3.mono hB, Kin.of f3⟩
      · exact (plays_0 k (by simpa using c1) (by simpa using c2) (by simpa using c3) hb B go gn to' tn so lo sn sc n cap S A s w hi ha hS sS hA hs lbS lbA hsm hnm hB TB hl).mono fun e w' ⟨h, f1, f2, f3⟩ => ⟨h, ⟨_, _, _, _, f1, f2⟩, f3.mono hB, Kin.of f3⟩
end Go.Proofs.YtppcfpiihkaopaaGreatDoor
