
/- An error told right behind each step, where there is none: the walk; the law. -/

import Derived.Test.YtfbnnofmplakjaaDoorFTo

namespace Go.Proofs.YtfbnnofmplakjaaDoor

open Go.RowKit Go.Extern.Stop Go.Stop Go.Extern

set_option linter.unusedVariables false

/-- Dead, between two rounds: box q holds the book, box q2 the first one. -/
def Ldq (w : World) (q q2 : Nat) (c p : Int) (t : List UInt8) (e : Value) (wr : World) : Prop :=
  e = .nilIface ∧ wr.heap[q]? = some (.cells #[.bool false, .int .i64 c, .int .i64 p, .slice none 0 0, .string ⟨t.toArray⟩] 29 (0, 0)) ∧ wr.heap[q2]? = some (.cells #[.bool false, .int .i64 c, .int .i64 p, .slice none 0 0, .string ⟨t.toArray⟩] 29 (0, 0)) ∧ (w.heap.size ≤ q ∧ q ≠ q2) ∧ t.length ≤ 60 ∧ Below w.heap.size w wr
theorem Ldq.next {w : World} {q q2 : Nat} {c p : Int} {t : List UInt8} {wr w1 : World} (h : Ldq w q q2 c p t .nilIface wr) (k : Below wr.heap.size wr w1) :
    Ldq w q q2 c p t .nilIface (wr5 w1 q (.bool false) (.int .i64 c) (.int .i64 p) (.slice none 0 0) (.string ⟨t.toArray⟩)) := by
  obtain ⟨_, hq, hq2, hwq, ht, hb⟩ := h
  refine ⟨rfl, wr5_blk (heap_at hq k (Nat.le_refl _)) _ _ _ _ _, ?_, hwq, ht, wr5_below _ _ _ _ _ (hb.trans (k.mono hb.size)) hwq.1⟩
  have O := (((((Only.refl q q w1).set ⟨q, 0, none⟩ (.bool false) (.inl rfl)).set ⟨q, 1, none⟩ (.int .i64 c) (.inl rfl)).set ⟨q, 2, none⟩ (.int .i64 p) (.inl rfl)).set ⟨q, 3, none⟩ (.slice none 0 0) (.inl rfl)).set ⟨q, 4, none⟩ (.string ⟨t.toArray⟩) (.inl rfl)
  rw [O.block q2 (Ne.symm hwq.2) (Ne.symm hwq.2)]; exact heap_at hq2 k (Nat.le_refl _)
theorem Ldq.below {w : World} {q q2 : Nat} {c p : Int} {t : List UInt8} {e : Value} {wr wr' : World} (h : Ldq w q q2 c p t e wr) (kb : Below wr.heap.size wr wr') : Ldq w q q2 c p t e wr' := by
  obtain ⟨h1, h2, h3, h4, h5, h6⟩ := h
  exact ⟨h1, heap_at h2 kb (Nat.le_refl _), heap_at h3 kb (Nat.le_refl _), h4, h5, h6.trans (kb.mono h6.size)⟩

set_option maxHeartbeats 4000000 in
theorem toldlaw_dead (kind c p : Int) (t : List UInt8) (so : Option Addr) (N cap : Nat) (xs : List (Int × List UInt8)) (w : World) (hbg : Bg kind c p t = none) (h1 : -9223372036854775808 ≤ p ∧ p ≤ 9223372036854775807) (T : Tb w) (hS : Sp w so N xs) (hN : N ≤ 1048576) (ht : t.length ≤ 1048576) :
    Calls Tryd.prog 3 #[.int .i64 kind, .int .i64 c, .int .i64 p, .string ⟨t.toArray⟩, .slice so N cap] w fun r w' => r = .returned (.bool true) ∧ Below w.heap.size w w' := by
  have cA := awake_any w T
  have cB : ∀ V, Tb V → _ := fun V hV => begun_none kind c p t V hbg h1 hV
  have HN : Hid (xs.length = N) := hS.len
  have HM : Hid (N ≤ 1048576 ∧ t.length ≤ 1048576) := ⟨hN, ht⟩
  clear hbg hN ht h1
  go_enter Tryd.func3, Tryd.ntmps3
  go_upto_region 3 with (first
    | (go_at_call 8; (with_reducible refine cA.mono ?_); rintro e w1 ⟨rfl, b1⟩; have T1 := T.below b1; have cB1 := cB _ T1)
    | (go_at_call 9; (with_reducible refine cB1.mono ?_); rintro e w2 ⟨c0, p0, t0, rfl, ht0, b2⟩))
  have K2 := b1.trans (b2.mono b1.size)
  have bq := box_below w2 (.cells #[.bool false, .int .i64 c0, .int .i64 p0, .slice none 0 0, .string ⟨t0.toArray⟩] 29)
  have Hz := new_blk w2 (.cells #[.bool false, .int .i64 c0, .int .i64 p0, .slice none 0 0, .string ⟨t0.toArray⟩] 29)
  have K3 := K2.trans (bq.mono K2.size)
  have hwq : w.heap.size ≤ w2.heap.size := K2.size
  generalize w2.heap.size = q at *
  generalize w2.alloc (.cells #[.bool false, .int .i64 c0, .int .i64 p0, .slice none 0 0, .string ⟨t0.toArray⟩] 29) = W0 at *
  have cT := told_none W0 c0 p0 t0
  have z0 : W0.cell? ⟨q, 0, none⟩ = some (.bool false) := cell_of Hz rfl
  have z1 : W0.cell? ⟨q, 1, none⟩ = some (.int .i64 c0) := cell_of Hz rfl
  have z2 : W0.cell? ⟨q, 2, none⟩ = some (.int .i64 p0) := cell_of Hz rfl
  have z3 : W0.cell? ⟨q, 3, none⟩ = some (.slice none 0 0) := cell_of Hz rfl
  have z4 : W0.cell? ⟨q, 4, none⟩ = some (.string ⟨t0.toArray⟩) := cell_of Hz rfl
  clear cA cB cB1 T1 b1 b2 K2 bq
  go_upto_region 5 with (go_at_call 10; (with_reducible refine cT.mono ?_); rintro e w5 ⟨rfl, b5⟩; have Hd := heap_at Hz b5 (Nat.le_refl _); have K5 := K3.trans (b5.mono K3.size); have d0 : w5.cell? ⟨q, 0, none⟩ = some (.bool false) := cell_of Hd rfl; have d1 : w5.cell? ⟨q, 1, none⟩ = some (.int .i64 c0) := cell_of Hd rfl; have d2 : w5.cell? ⟨q, 2, none⟩ = some (.int .i64 p0) := cell_of Hd rfl; have d3 : w5.cell? ⟨q, 3, none⟩ = some (.slice none 0 0) := cell_of Hd rfl; have d4 : w5.cell? ⟨q, 4, none⟩ = some (.string ⟨t0.toArray⟩) := cell_of Hd rfl)
  clear z0 z1 z2 z3 z4 cT K3 Hz
  go_upto_region 6 with fail
  have bq := box_below w5 (.cells #[.bool false, .int .i64 c0, .int .i64 p0, .slice none 0 0, .string ⟨t0.toArray⟩] 29)
  have L0 : Ldq w q w5.heap.size c0 p0 t0 .nilIface (w5.alloc (.cells #[.bool false, .int .i64 c0, .int .i64 p0, .slice none 0 0, .string ⟨t0.toArray⟩] 29)) := ⟨rfl, heap_at Hd bq (Nat.le_refl _), new_blk _ _, ⟨hwq, Nat.ne_of_lt (heap_lt Hd)⟩, ht0, K5.trans (bq.mono K5.size)⟩
  generalize w5.heap.size = q2 at *
  generalize w5.alloc (.cells #[.bool false, .int .i64 c0, .int .i64 p0, .slice none 0 0, .string ⟨t0.toArray⟩] 29) = W5 at *
  clear d0 d1 d2 d3 d4 Hd K5 bq b5 hwq ht0
  have hsz0 : t.length ≤ 8796093022208 := by have := HM.out.2; omega
  go_wp2
  go_loopg [12, 14, 17, 18] N (fun g s12 s14 s17 s18 wr => ∃ k sz : Nat, k ≤ N ∧ g = N - k ∧ s14 = .bool true ∧ s17 = .int .i64 (sz : Nat) ∧ s18 = .int .i64 (k : Nat) ∧ sz ≤ 8796093022208 ∧ Ldq w q q2 c0 p0 t0 s12 wr)
  case atStart => exact ⟨0, t.length, Nat.zero_le _, rfl, rfl, rfl, rfl, hsz0, L0⟩
  case round =>
    clear L0 hsz0
    obtain ⟨k, sz, hk, rfl, rfl, rfl, rfl, hsz, hL⟩ := hrel
    obtain ⟨rfl, Hz, He, hwq, ht, hbw⟩ := hL
    have z0 : wr.cell? ⟨q, 0, none⟩ = some (.bool false) := cell_of Hz rfl
    have z1 : wr.cell? ⟨q, 1, none⟩ = some (.int .i64 c0) := cell_of Hz rfl
    have z2 : wr.cell? ⟨q, 2, none⟩ = some (.int .i64 p0) := cell_of Hz rfl
    have z3 : wr.cell? ⟨q, 3, none⟩ = some (.slice none 0 0) := cell_of Hz rfl
    have z4 : wr.cell? ⟨q, 4, none⟩ = some (.string ⟨t0.toArray⟩) := cell_of Hz rfl
    have e0 : wr.cell? ⟨q2, 0, none⟩ = some (.bool false) := cell_of He rfl
    have e1 : wr.cell? ⟨q2, 1, none⟩ = some (.int .i64 c0) := cell_of He rfl
    have e2 : wr.cell? ⟨q2, 2, none⟩ = some (.int .i64 p0) := cell_of He rfl
    have e3 : wr.cell? ⟨q2, 3, none⟩ = some (.slice none 0 0) := cell_of He rfl
    have e4 : wr.cell? ⟨q2, 4, none⟩ = some (.string ⟨t0.toArray⟩) := cell_of He rfl
    have cF := told_none wr c0 p0 t0
    have hL : Ldq w q q2 c0 p0 t0 .nilIface wr := ⟨rfl, Hz, He, hwq, ht, hbw⟩
    by_cases hlt : k < N
    · by_cases hz : sz < 65536
      · have hS' := hS.below hbw (Nat.le_refl _)
        obtain ⟨sb, off, rfl, hsb, hcells⟩ := hS'.cells (by omega)
        have hx : ∃ x, xs[k]? = some x := ⟨xs[k]'(by rw [HN.out]; exact hlt), List.getElem?_eq_getElem _⟩
        obtain ⟨⟨kk, nm⟩, hx⟩ := hx
        obtain ⟨x0, x1⟩ := hcells k _ hx
        have cM := more_none wr.drew none 0 0 c0 p0 t0 nm kk
        have HH : Hid (Ldq w q q2 c0 p0 t0 .nilIface wr.drew) := hL.below ((Below.refl _ _).drew)
        have BB : Hid (N ≤ 1048576 ∧ sz + t0.length ≤ 8796093022208) := ⟨HM.out.1, by omega⟩
        have t1 : decide ((k : Int) < (N : Int)) = true := by simp [hlt]
        have t2' : (sz : Int) < 65536 := by omega
        have t2 : decide ((sz : Int) < 65536) = true := by simp [t2']
        have ws : IntKind.i64.wrap ((sz : Int) + (t0.length : Int)) = (sz : Int) + (t0.length : Int) := wrapIn _ (by omega)
        clear hcells hS' hx ht hz hsz hL hwq hbw Hz He e0 e1 e2 e3 e4 cF
        go_upto_region 11 with fail
        go_cut [12] from 54 to 63 (fun s12 V => Ldq w q q2 c0 p0 t0 s12 V)
        case first =>
          go_region_with (go_at_call 11; (with_reducible refine cM.mono ?_); rintro e w3 ⟨rfl, b3⟩; have LN := HH.out.next b3; have Hh : w3.heap[q]? = some (.cells #[.bool false, .int .i64 c0, .int .i64 p0, .slice none 0 0, .string ⟨t0.toArray⟩] 29 (0, 0)) := heap_at HH.out.2.1 b3 (Nat.le_refl _); have h0 : w3.cell? ⟨q, 0, none⟩ = some (.bool false) := cell_of Hh rfl; have h1 : w3.cell? ⟨q, 1, none⟩ = some (.int .i64 c0) := cell_of Hh rfl; have h2 : w3.cell? ⟨q, 2, none⟩ = some (.int .i64 p0) := cell_of Hh rfl; have h3 : w3.cell? ⟨q, 3, none⟩ = some (.slice none 0 0) := cell_of Hh rfl; have h4 : w3.cell? ⟨q, 4, none⟩ = some (.string ⟨t0.toArray⟩) := cell_of Hh rfl; have ef : ∀ j, w3.frozen? ⟨q, j, none⟩ = false := fun j => own_cell Hh j)
          all_goals
            go_wp2
            go_meet
            case rel => exact LN
        case rest =>
          obtain ⟨W6, hW6⟩ : ∃ W, W = wc := ⟨_, rfl⟩
          subst hW6
          have L6 := hcut
          obtain ⟨rfl, Hf, _, _, _, _⟩ := hcut
          have f0 : W6.cell? ⟨q, 0, none⟩ = some (.bool false) := cell_of Hf rfl
          have f1 : W6.cell? ⟨q, 1, none⟩ = some (.int .i64 c0) := cell_of Hf rfl
          have f2 : W6.cell? ⟨q, 2, none⟩ = some (.int .i64 p0) := cell_of Hf rfl
          have f3 : W6.cell? ⟨q, 3, none⟩ = some (.slice none 0 0) := cell_of Hf rfl
          have f4 : W6.cell? ⟨q, 4, none⟩ = some (.string ⟨t0.toArray⟩) := cell_of Hf rfl
          have cT6 := told_none W6 c0 p0 t0
          clear z0 z1 z2 z3 z4 x0 x1 cM Hf
          go_upto_region 12 with fail
          go_wp2_with (go_at_call 10; (with_reducible refine cT6.mono ?_); rintro e w7 ⟨rfl, b7⟩)
          go_roundg (N - (k + 1))
          case measure => omega
          case rel => exact ⟨k + 1, sz + t0.length, by omega, rfl, rfl, by go_num, (by have h1 := BB.out.1; refine congrArg (Value.int .i64) ?_; unfold wrap64; omega), BB.out.2, L6.below b7⟩
      · have t1 : decide ((k : Int) < (N : Int)) = true := by simp [hlt]
        have t2' : ¬ (sz : Int) < 65536 := by omega
        have t2 : decide ((sz : Int) < 65536) = false := by simp [t2']
        clear hz hsz hS ht hL Hz He
        go_wp2_with (go_at_call 10; (with_reducible refine cF.mono ?_); rintro e w7 ⟨rfl, b7⟩)
        go_ret
        exact ⟨rfl, hbw.trans (b7.mono hbw.size)⟩
    · obtain rfl : k = N := by omega
      have t1 : decide ((k : Int) < (k : Int)) = false := by simp
      clear hlt hsz hS ht hL Hz He
      go_wp2_with (go_at_call 10; (with_reducible refine cF.mono ?_); rintro e w7 ⟨rfl, b7⟩)
      go_ret
      exact ⟨rfl, hbw.trans (b7.mono hbw.size)⟩

theorem bg_small {kind c p : Int} {t : List UInt8} {b : Bs} (h : Bg kind c p t = some b) (h0 : -9223372036854775808 ≤ c ∧ c ≤ 9223372036854775807) (h1 : -9223372036854775808 ≤ p ∧ p ≤ 9223372036854775807) (ht : t.length ≤ 1048576) : (tx [] b).length ≤ 2097152 := by
  have q0 := itoa_le c h0
  have q1 := itoa_le p h1
  show (txB b).length ≤ _
  unfold Bg at h
  split at h
  · split at h
    · cases h
    · cases h; simp [txB, wErr, wAt]; omega
  · split at h
    · cases h; simp [txB]; omega
    · split at h
      · cases h; simp [txB, wErr]; omega
      · cases h
theorem toldlaw_any (kind c p : Int) (t : List UInt8) (so : Option Addr) (N cap : Nat) (xs : List (Int × List UInt8)) (w : World) (h0 : -9223372036854775808 ≤ c ∧ c ≤ 9223372036854775807) (h1 : -9223372036854775808 ≤ p ∧ p ≤ 9223372036854775807) (T : Tb w) (hS : Sp w so N xs) (hN : N ≤ 1048576) (hX : ∀ x ∈ xs, x.2.length ≤ 1048576) (ht : t.length ≤ 1048576) :
    Calls Tryd.prog 3 #[.int .i64 kind, .int .i64 c, .int .i64 p, .string ⟨t.toArray⟩, .slice so N cap] w fun r w' => r = .returned (.bool true) ∧ Below w.heap.size w w' := by
  cases hb : Bg kind c p t with
  | none => exact toldlaw_dead kind c p t so N cap xs w hb h1 T hS hN ht
  | some b => exact toldlaw_live kind c p t so N cap xs w b hb (bg_small hb h0 h1 ht) h0 h1 T hS hN hX ht
end Go.Proofs.YtfbnnofmplakjaaDoor
