
/- errors.As gives the number: the walk. -/

import Derived.Test.YtfbnnofmplakjaaDoorFR0

import Derived.Deep.RegionWith

import Derived.Deep.LoopGhost

namespace Go.Proofs.YtfbnnofmplakjaaDoor

open Go.RowKit Go.Extern.Stop Go.Stop Go.Extern

set_option linter.unusedVariables false

theorem number_end (w : World) (q : Nat) (c : Int) (b : Bs) (e : Value) (ls : List Lk) (na : Option Addr) (nn nc : Nat) (wr : World) (hk : b.k = 1) (hc : b.c = c) (T : Tb w) (h : Ch wr e ls b)
    (hq : wr.heap[q]? = some (.cells #[.bool true, .int .i64 (cdE b), .int .i64 (plc b), .slice na nn nc, .string ⟨(tx ls b).toArray⟩] 29 (0, 0))) (hwq : w.heap.size ≤ q) (hb : Below w.heap.size w wr) :
    (Calls Tryd.prog 14 #[e, .iface 42 (.pointer (some ⟨wr.heap.size, 0, none⟩))] (wr.alloc (.cells #[.int .i64 0] 22)) fun x w' => x = .returned (.bool true) ∧ w'.cell? ⟨q, 0, none⟩ = some (.bool true) ∧ w'.cell? ⟨wr.heap.size, 0, none⟩ = some (.int .i64 c) ∧ Below w.heap.size w w') ∧
    wr.cell? ⟨q, 0, none⟩ = some (.bool true) ∧ wr.cell? ⟨q, 4, none⟩ = some (.string ⟨(tx ls b).toArray⟩) ∧ (∃ te ve, e = .iface te ve) := by
  have bw := box_below wr (.cells #[.int .i64 0] 22)
  have hkk : b.k ≠ 2 := by omega
  refine ⟨?_, cell_of hq rfl, cell_of hq rfl, h.iface⟩
  refine (asTop true c _ e ls b (Ch.below bw (Nat.le_refl _) h) ⟨hkk, hc⟩ wr.heap.size (.int .i64 0) (T.below (hb.trans (bw.mono hb.size))) (by simp) (by simp)).mono ?_
  rintro x w' ⟨rfl, X, hX, hw⟩
  have hql := heap_lt hq
  refine ⟨rfl, ?_, ?_, ?_⟩
  · rw [hw]
    show (X.setCell _ _).cell? _ = _
    rw [World.cell?_setCell_other _ _ _ _ (by intro e; have := congrArg Addr.block e; simp at this; omega), hX.cell (by simp; omega), bw.cell hql]
    exact cell_of hq rfl
  · rw [hw]
    show (X.setCell _ _).cell? _ = _
    exact World.cell?_setCell_same _ _ _ (by rw [show X.cell? ⟨wr.heap.size, 0, none⟩ = some (.int .i64 0) from (hX.cell (p := ⟨wr.heap.size, 0, none⟩) (by simp)).trans (by simp)])
  · rw [hw]
    exact ((hb.trans (bw.mono hb.size)).trans (hX.mono (by simp; have := hb.size; omega))).setCell (p := ⟨wr.heap.size, 0, none⟩) hb.size _
theorem wrapIn (x : Int) (h : -9223372036854775808 ≤ x ∧ x ≤ 9223372036854775807) : IntKind.i64.wrap x = x := by rw [IntKind.wrap_i64]; omega
set_option maxHeartbeats 4000000 in
theorem number_live (c p : Int) (so : Option Addr) (N cap : Nat) (xs : List (Int × List UInt8)) (w : World) (b : Bs) (hbg : Bg 1 c p [] = some b) (hbt : b.t = []) (hbk : b.k = 1) (hbc : b.c = c) (h0 : -9223372036854775808 ≤ c ∧ c ≤ 9223372036854775807) (h1 : -9223372036854775808 ≤ p ∧ p ≤ 9223372036854775807) (T : Tb w) (hS : Sp w so N xs) :
    Calls Tryd.prog 6 #[.int .i64 c, .int .i64 p, .slice so N cap] w fun r w' => r = .returned (.bool true) ∧ Below w.heap.size w w' := by
  have cA := awake_any w T
  have cB : ∀ V, Tb V → _ := fun V hV => begun_live 1 c p [] V b hbg h0 h1 hV
  have HK : Hid (b.k = 1) := hbk
  have HC : Hid (b.c = c) := hbc
  have HT : Hid (b.t.length ≤ 140737488351232) := by show _ ≤ _; rw [hbt]; simp
  have HN : Hid (xs.length = N) := hS.len
  have HR : N ≤ 5864062014634 := by have := hS.room; omega
  clear hbk hbc hbt hbg
  go_enter Tryd.func6, Tryd.ntmps6
  go_upto_region 3 with (first
    | (go_at_call 8; (with_reducible refine cA.mono ?_); rintro e w1 ⟨rfl, b1⟩; have T1 := T.below b1; have cB1 := cB _ T1)
    | (go_at_call 9; (with_reducible refine cB1.mono ?_); rintro e w2 ⟨e2, rfl, hc2, b2⟩))
  have K2 := b1.trans (b2.mono b1.size)
  have L0 := Lp.first hc2 K2 HT.out 0 (by omega)
  generalize w2.heap.size = q at *
  generalize w2.alloc (.cells #[.bool true, .int .i64 (cdE b), .int .i64 (plc b), .slice none 0 0, .string ⟨(tx [] b).toArray⟩] 29) = W0 at *
  clear cA cB cB1 T1 hc2 b1 b2 K2
  go_wp2
  go_loopg [8, 10, 11] N (fun g s8 s10 s11 wr => ∃ k sz : Nat, k ≤ N ∧ g = N - k ∧ s10 = .int .i64 (sz : Nat) ∧ s11 = .int .i64 (k : Nat) ∧ Lp w q b k s8 sz wr)
  case atStart => exact ⟨0, 0, Nat.zero_le _, rfl, rfl, rfl, L0⟩
  case round =>
    clear L0
    obtain ⟨k, sz, hk, rfl, rfl, rfl, hL⟩ := hrel
    by_cases hlt : k < N
    · by_cases hz : sz < 65536
      · obtain ⟨ls, na, nn, nc, hch, hlen, hst, hq, hwq, hsz, htx, hbw⟩ := hL
        have hS' := hS.below hbw (Nat.le_refl _)
        obtain ⟨sb, off, rfl, hsb, hcells⟩ := hS'.cells (by omega)
        have hx : ∃ x, xs[k]? = some x := ⟨xs[k]'(by rw [HN.out]; exact hlt), List.getElem?_eq_getElem _⟩
        obtain ⟨⟨kk, nm⟩, hx⟩ := hx
        obtain ⟨x0, x1⟩ := hcells k _ hx
        have hnm : nm.length ≤ 140737488351232 := hS.txt _ (List.mem_of_getElem? hx)
        have c0 : wr.cell? ⟨q, 0, none⟩ = some (.bool true) := cell_of hq rfl
        have c1 : wr.cell? ⟨q, 1, none⟩ = some (.int .i64 (cdE b)) := cell_of hq rfl
        have c2 : wr.cell? ⟨q, 2, none⟩ = some (.int .i64 (plc b)) := cell_of hq rfl
        have c3 : wr.cell? ⟨q, 3, none⟩ = some (.slice na nn nc) := cell_of hq rfl
        have c4 : wr.cell? ⟨q, 4, none⟩ = some (.string ⟨(tx ls b).toArray⟩) := cell_of hq rfl
        have bd : Below wr.heap.size wr wr.drew := (Below.refl _ _).drew
        have cM := more_any wr.drew w.heap.size u8 na nn nc ls b kk nm (Ch.below bd (Nat.le_refl _) hch) (own_below hst bd) hbw.size (by omega) (by omega) (by omega)
        have HH : Hid (ls.length ≤ k ∧ St wr.drew w.heap.size (.slice na nn nc) (nms ls) ∧ wr.drew.heap[q]? = some (.cells #[.bool true, .int .i64 (cdE b), .int .i64 (plc b), .slice na nn nc, .string ⟨(tx ls b).toArray⟩] 29 (0, 0))) := ⟨hlen, own_below hst bd, hq⟩
        clear hcells hS' hx hS hch hlen hst hq bd
        have BB : Hid (N ≤ 5864062014634 ∧ nm.length ≤ 140737488351232 ∧ (tx ls b).length ≤ sz + 281474976710656 ∧ sz < 65536) := ⟨HR, hnm, htx, hz⟩
        have t1 : decide ((k : Int) < (N : Int)) = true := by simp [hlt]
        have t2' : (sz : Int) < 65536 := by omega
        have t2 : decide ((sz : Int) < 65536) = true := by simp [t2']
        have ws : IntKind.i64.wrap ((sz : Int) + ((tx ls b).length : Int)) = (sz : Int) + ((tx ls b).length : Int) := wrapIn _ (by omega)
        clear HR hnm htx hz hsz
        go_upto_region 8 with fail
        go_region_with (go_at_call 11; (with_reducible refine cM.mono ?_); rintro e w3 ⟨e3, na', nn', nc', rfl, hc3, hs3, hg3⟩; have hq3 : w3.heap[q]? = some (.cells #[.bool true, .int .i64 (cdE b), .int .i64 (plc b), .slice na nn nc, .string ⟨(tx ls b).toArray⟩] 29 (0, 0)) := (hg3.block q (heap_lt HH.out.2.2) (row_ne HH.out.2.1 HH.out.2.2).symm).trans HH.out.2.2; have e0 : w3.cell? ⟨q, 0, none⟩ = some (.bool true) := cell_of hq3 rfl; have e1 : w3.cell? ⟨q, 1, none⟩ = some (.int .i64 (cdE b)) := cell_of hq3 rfl; have e2 : w3.cell? ⟨q, 2, none⟩ = some (.int .i64 (plc b)) := cell_of hq3 rfl; have e3 : w3.cell? ⟨q, 3, none⟩ = some (.slice na nn nc) := cell_of hq3 rfl; have e4 : w3.cell? ⟨q, 4, none⟩ = some (.string ⟨(tx ls b).toArray⟩) := cell_of hq3 rfl; have ef : ∀ j, w3.frozen? ⟨q, j, none⟩ = false := fun j => own_cell hq3 j)
        all_goals
          go_wp2
          go_roundg (N - (k + 1))
          case measure => omega
          case rel => exact ⟨k + 1, sz + (tx ls b).length, by omega, rfl, by go_num, (by have h1 := BB.out.1; refine congrArg (Value.int .i64) ?_; unfold wrap64; omega), Lp.next HH.out.1 HH.out.2.1 HH.out.2.2 hwq BB.out.2.2.2 BB.out.2.2.1 hbw.drew BB.out.2.1 hc3 hs3 hg3⟩
      · obtain ⟨ls, na, nn, nc, hch, hlen, hst, hq, hwq, hsz, htx, hbw⟩ := hL
        have t1 : decide ((k : Int) < (N : Int)) = true := by simp [hlt]
        have t2' : ¬ (sz : Int) < 65536 := by omega
        have t2 : decide ((sz : Int) < 65536) = false := by simp [t2']
        clear hz
        obtain ⟨cE, v0, v1, te, ve, rfl⟩ := number_end w q c b u8 ls na nn nc wr HK.out HC.out T hch hq hwq hbw
        clear hsz htx HR hS hst
        go_wp2_with (go_at_call 14; (with_reducible refine cE.mono ?_); rintro e w4 ⟨rfl, n4, n5, b4⟩)
        go_ret
        exact ⟨rfl, b4⟩
    · obtain ⟨ls, na, nn, nc, hch, hlen, hst, hq, hwq, hsz, htx, hbw⟩ := hL
      obtain rfl : k = N := by omega
      have t1 : decide ((k : Int) < (k : Int)) = false := by simp
      clear hlt
      obtain ⟨cE, v0, v1, te, ve, rfl⟩ := number_end w q c b u8 ls na nn nc wr HK.out HC.out T hch hq hwq hbw
      clear hsz htx HR hS hst
      go_wp2_with (go_at_call 14; (with_reducible refine cE.mono ?_); rintro e w4 ⟨rfl, n4, n5, b4⟩)
      go_ret
      exact ⟨rfl, b4⟩
set_option maxHeartbeats 4000000 in
theorem number_dead (c p : Int) (so : Option Addr) (N cap : Nat) (xs : List (Int × List UInt8)) (w : World) (hbg : Bg 1 c p [] = none) (h0 : -9223372036854775808 ≤ c ∧ c ≤ 9223372036854775807) (h1 : -9223372036854775808 ≤ p ∧ p ≤ 9223372036854775807) (T : Tb w) (hS : Sp w so N xs) :
    Calls Tryd.prog 6 #[.int .i64 c, .int .i64 p, .slice so N cap] w fun r w' => r = .returned (.bool true) ∧ Below w.heap.size w w' := by
  have cA := awake_any w T
  have cB : ∀ V, Tb V → _ := fun V hV => begun_none 1 c p [] V hbg h1 hV
  have HN : Hid (xs.length = N) := hS.len
  have HR : N ≤ 5864062014634 := by have := hS.room; omega
  clear hbg
  go_enter Tryd.func6, Tryd.ntmps6
  go_upto_region 3 with (first
    | (go_at_call 8; (with_reducible refine cA.mono ?_); rintro e w1 ⟨rfl, b1⟩; have T1 := T.below b1; have cB1 := cB _ T1)
    | (go_at_call 9; (with_reducible refine cB1.mono ?_); rintro e w2 ⟨c0, p0, t0, rfl, ht0, b2⟩))
  have K2 := b1.trans (b2.mono b1.size)
  have L0 : Ld w w2.heap.size c0 p0 t0 .nilIface 0 (w2.alloc (.cells #[.bool false, .int .i64 c0, .int .i64 p0, .slice none 0 0, .string ⟨t0.toArray⟩] 29)) := ⟨rfl, new_blk _ _, K2.size, ht0, by omega, K2.trans ((box_below w2 _).mono K2.size)⟩
  generalize w2.heap.size = q at *
  generalize w2.alloc (.cells #[.bool false, .int .i64 c0, .int .i64 p0, .slice none 0 0, .string ⟨t0.toArray⟩] 29) = W0 at *
  clear cA cB cB1 T1 b1 b2 K2 ht0
  go_wp2
  go_loopg [8, 10, 11] N (fun g s8 s10 s11 wr => ∃ k sz : Nat, k ≤ N ∧ g = N - k ∧ s10 = .int .i64 (sz : Nat) ∧ s11 = .int .i64 (k : Nat) ∧ Ld w q c0 p0 t0 s8 sz wr)
  case atStart => exact ⟨0, 0, Nat.zero_le _, rfl, rfl, rfl, L0⟩
  case round =>
    clear L0
    obtain ⟨k, sz, hk, rfl, rfl, rfl, rfl, hq, hwq, ht, hsz, hbw⟩ := hrel
    have c0' : wr.cell? ⟨q, 0, none⟩ = some (.bool false) := cell_of hq rfl
    have c1' : wr.cell? ⟨q, 1, none⟩ = some (.int .i64 c0) := cell_of hq rfl
    have c2' : wr.cell? ⟨q, 2, none⟩ = some (.int .i64 p0) := cell_of hq rfl
    have c3' : wr.cell? ⟨q, 3, none⟩ = some (.slice none 0 0) := cell_of hq rfl
    have c4' : wr.cell? ⟨q, 4, none⟩ = some (.string ⟨t0.toArray⟩) := cell_of hq rfl
    by_cases hlt : k < N
    · by_cases hz : sz < 65536
      · have hS' := hS.below hbw (Nat.le_refl _)
        obtain ⟨sb, off, rfl, hsb, hcells⟩ := hS'.cells (by omega)
        have hx : ∃ x, xs[k]? = some x := ⟨xs[k]'(by rw [HN.out]; exact hlt), List.getElem?_eq_getElem _⟩
        obtain ⟨⟨kk, nm⟩, hx⟩ := hx
        obtain ⟨x0, x1⟩ := hcells k _ hx
        have cM := more_none wr.drew none 0 0 c0 p0 t0 nm kk
        have HH : Hid (wr.drew.heap[q]? = some (.cells #[.bool false, .int .i64 c0, .int .i64 p0, .slice none 0 0, .string ⟨t0.toArray⟩] 29 (0, 0))) := hq
        have BB : Hid (N ≤ 5864062014634 ∧ t0.length ≤ 60 ∧ sz < 65536) := ⟨HR, ht, hz⟩
        have t1 : decide ((k : Int) < (N : Int)) = true := by simp [hlt]
        have t2' : (sz : Int) < 65536 := by omega
        have t2 : decide ((sz : Int) < 65536) = true := by simp [t2']
        have ws : IntKind.i64.wrap ((sz : Int) + (t0.length : Int)) = (sz : Int) + (t0.length : Int) := wrapIn _ (by omega)
        clear hcells hS' hx hS hq HR ht hz hsz
        go_upto_region 8 with fail
        go_region_with (go_at_call 11; (with_reducible refine cM.mono ?_); rintro e w3 ⟨rfl, b3⟩; have hq3 : w3.heap[q]? = some (.cells #[.bool false, .int .i64 c0, .int .i64 p0, .slice none 0 0, .string ⟨t0.toArray⟩] 29 (0, 0)) := heap_at HH.out b3 (Nat.le_refl _); have e0 : w3.cell? ⟨q, 0, none⟩ = some (.bool false) := cell_of hq3 rfl; have e1 : w3.cell? ⟨q, 1, none⟩ = some (.int .i64 c0) := cell_of hq3 rfl; have e2 : w3.cell? ⟨q, 2, none⟩ = some (.int .i64 p0) := cell_of hq3 rfl; have e3 : w3.cell? ⟨q, 3, none⟩ = some (.slice none 0 0) := cell_of hq3 rfl; have e4 : w3.cell? ⟨q, 4, none⟩ = some (.string ⟨t0.toArray⟩) := cell_of hq3 rfl; have ef : ∀ j, w3.frozen? ⟨q, j, none⟩ = false := fun j => own_cell hq3 j)
        all_goals
          go_wp2
          go_roundg (N - (k + 1))
          case measure => omega
          case rel => exact ⟨k + 1, sz + t0.length, by omega, rfl, by go_num, (by have h1 := BB.out.1; refine congrArg (Value.int .i64) ?_; unfold wrap64; omega), Ld.next HH.out hwq BB.out.2.1 BB.out.2.2 hbw.drew b3⟩
      · have t1 : decide ((k : Int) < (N : Int)) = true := by simp [hlt]
        have t2' : ¬ (sz : Int) < 65536 := by omega
        have t2 : decide ((sz : Int) < 65536) = false := by simp [t2']
        clear hz
        have cE := as_nil (.iface 42 (.pointer (some ⟨wr.heap.size, 0, none⟩))) (wr.alloc (.cells #[.int .i64 0] 22))
        have bE := hbw.trans ((box_below wr (.cells #[.int .i64 0] 22)).mono hbw.size)
        have v0 : (wr.alloc (.cells #[.int .i64 0] 22)).cell? ⟨q, 0, none⟩ = some (.bool false) := by rw [(box_below wr _).cell (heap_lt hq)]; exact c0'
        clear hsz ht HR hS hq
        go_wp2_with (go_at_call 14; (with_reducible refine cE.mono ?_); rintro e w4 ⟨rfl, rfl⟩)
        go_ret
        exact ⟨rfl, bE⟩
    · obtain rfl : k = N := by omega
      have t1 : decide ((k : Int) < (k : Int)) = false := by simp
      clear hlt
      have cE := as_nil (.iface 42 (.pointer (some ⟨wr.heap.size, 0, none⟩))) (wr.alloc (.cells #[.int .i64 0] 22))
      have bE := hbw.trans ((box_below wr (.cells #[.int .i64 0] 22)).mono hbw.size)
      have v0 : (wr.alloc (.cells #[.int .i64 0] 22)).cell? ⟨q, 0, none⟩ = some (.bool false) := by rw [(box_below wr _).cell (heap_lt hq)]; exact c0'
      clear hsz ht HR hS hq
      go_wp2_with (go_at_call 14; (with_reducible refine cE.mono ?_); rintro e w4 ⟨rfl, rfl⟩)
      go_ret
      exact ⟨rfl, bE⟩

theorem number_any (c p : Int) (so : Option Addr) (N cap : Nat) (xs : List (Int × List UInt8)) (w : World) (h0 : -9223372036854775808 ≤ c ∧ c ≤ 9223372036854775807) (h1 : -9223372036854775808 ≤ p ∧ p ≤ 9223372036854775807) (T : Tb w) (hS : Sp w so N xs) :
    Calls Tryd.prog 6 #[.int .i64 c, .int .i64 p, .slice so N cap] w fun r w' => r = .returned (.bool true) ∧ Below w.heap.size w w' := by
  by_cases hc : c = 0
  · exact number_dead c p so N cap xs w (by simp [Bg, hc]) h0 h1 T hS
  · exact number_live c p so N cap xs w ⟨1, c, p, []⟩ (by simp [Bg, hc]) rfl rfl rfl h0 h1 T hS
end Go.Proofs.YtfbnnofmplakjaaDoor
