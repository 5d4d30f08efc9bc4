
/- ShowAll: the walk. -/

import Derived.Test.YtppcfpiihkaopaaGreatDoorHD

import Derived.Test.YtppcfpiihkaopaaGreatDoorWork

namespace Go.Proofs.YtppcfpiihkaopaaGreatDoor

open Go.RowKit

set_option linter.unusedVariables false

/-- An entry of the script. -/
structure OpQ where
  K : Int
  so : Option Addr
  sn : Nat
  sc : Nat
  lo : Option Addr
  n : Nat
  cap : Nat
  t : ByteArray
/-- Its array is read. -/
def OkQ (w : World) (q : OpQ) : Prop := (∃ S, Rd w q.so q.sn S) ∧ Sl q.so q.sn q.sc ∧ (∃ A, Rd w q.lo q.n A) ∧ Sl q.lo q.n q.cap ∧ q.t.data.toList.length ≤ 140737488351232
theorem Fre.over {V : World} {B hb wb : Nat} {x : Int} (hf : Fre V B hb) (hw : V.heap[wb]? = some (.cells #[.int .i64 x] 33 (0, 0))) (hne : wb ≠ hb) (y : Int) :
    Fre (V.setCell ⟨wb, 0, none⟩ (.int .i64 y)) B hb ∧ (V.setCell ⟨wb, 0, none⟩ (.int .i64 y)).heap[wb]? = some (.cells #[.int .i64 y] 33 (0, 0)) := by
  have hg := grown_set V wb 0 (.int .i64 y)
  obtain ⟨go, gn, to', tn, hi, ha⟩ := hf
  have hbw : hb < V.heap.size := World.block_lt_of_cell? V _ hi.cell
  have hbk := hg.block hb hbw (some_ne (Ne.symm hne))
  refine ⟨⟨go, gn, to', tn, ⟨(World.cell?_of_block (a := ⟨hb, 0, none⟩) hbk).trans hi.cell, (World.frozen?_of_block (a := ⟨hb, 0, none⟩) hbk).trans hi.frozen, hi.base, ?_⟩, ⟨(World.cell?_of_block (a := ⟨hb, 1, none⟩) hbk).trans ha.cell, (World.frozen?_of_block (a := ⟨hb, 1, none⟩) hbk).trans ha.frozen, ha.base, ?_⟩⟩, ?_⟩
  · rcases hi.row with e | ⟨g, e, h1, h2, h3⟩
    · exact .inl e
    · exact .inr ⟨g, e, h1, h2, h3.kept hg (some_ne (Ne.symm (h3.no hw (by decide))))⟩
  · rcases ha.row with e | ⟨g, e, h1, h2, h3⟩
    · exact .inl e
    · exact .inr ⟨g, e, h1, h2, h3.kept hg (some_ne (Ne.symm (h3.no hw (by decide))))⟩
  · exact heap_setCell_same V wb 0 _ 33 _ hw
theorem Fre.belowB {V W : World} {B hb : Nat} (hf : Fre V B hb) (k : Below V.heap.size V W) : Fre W B hb := by
  obtain ⟨go, gn, to', tn, hi, ha⟩ := hf
  exact ⟨go, gn, to', tn, hi.belowB k, ha.belowB k⟩
set_option maxHeartbeats 8000000 in
set_option maxRecDepth 100000 in
theorem allS_walk (b off len cap : Nat) (q : Nat → OpQ) (w : World) (T : Tb w) (hb : b < w.heap.size) (hlen : len ≤ 9223372036854775807)
    (hc : ∀ i, i < len → w.cell? ⟨b, off + i * 4, none⟩ = some (.int .i64 (q i).K) ∧ w.cell? ⟨b, off + i * 4 + 1, none⟩ = some (.slice (q i).so (q i).sn (q i).sc) ∧ w.cell? ⟨b, off + i * 4 + 2, none⟩ = some (.slice (q i).lo (q i).n (q i).cap) ∧ w.cell? ⟨b, off + i * 4 + 3, none⟩ = some (.string (q i).t)) (hr : ∀ i, i < len → OkQ w (q i)) :
    Calls Tryz.prog 3 #[.slice (some ⟨b, off, none⟩) len cap] w fun e w' => e = .returned (.bool true) ∧ Below w.heap.size w w' := by
  have hcB := fun V => begun10_any V
  go_enter Tryz.func3, Tryz.ntmps3
  go_wp2_with (go_at_call 4; (with_reducible refine (hcB _ T).mono ?_); rintro e w1 ⟨rfl, b1⟩)
  have kh := box_below w1 (.cells #[.slice none 0 0, .slice none 0 0] 30)
  have zh := allocNew w1 (.cells #[.slice none 0 0, .slice none 0 0] 30)
  have kw := box_below (w1.alloc (.cells #[.slice none 0 0, .slice none 0 0] 30)) (.cells #[.int .i64 0] 33)
  have zw := allocNew (w1.alloc (.cells #[.slice none 0 0, .slice none 0 0] 30)) (.cells #[.int .i64 0] 33)
  rw [World.size_alloc] at zw
  have zh2 := (kw.block w1.heap.size (by simp)).trans zh
  obtain ⟨y0, y1, y2, y3⟩ := box2 zh2
  have b3 := (b1.trans (kh.mono b1.size)).trans (kw.mono (by have := b1.size; simp; omega))
  have F0 : Fre ((w1.alloc (.cells #[.slice none 0 0, .slice none 0 0] 30)).alloc (.cells #[.int .i64 0] 33)) w.heap.size w1.heap.size := ⟨none, 0, none, 0, ⟨y0, y2, b1.size, .inl ⟨rfl, rfl⟩⟩, ⟨y1, y3, b1.size, .inl ⟨rfl, rfl⟩⟩⟩
  go_loopw [5] (fun i V => ∃ (k : Nat) (x : Int), k ≤ len ∧ i = .int .i64 (k : Nat) ∧ 0 ≤ x ∧ x ≤ 4194304 ∧ V.heap[w1.heap.size + 1]? = some (.cells #[.int .i64 x] 33 (0, 0)) ∧ Fre V w.heap.size w1.heap.size ∧ Below w.heap.size w V) (fun i _ => len - (intOf i).toNat)
  case atStart => exact ⟨0, 0, Nat.zero_le _, rfl, by omega, by omega, zw, F0, b3⟩
  case round =>
    obtain ⟨k, x, hk, rfl, hx0, hx1, hwk, hF, BV⟩ := hrel
    clear b3 F0 y0 y1 y2 y3 zh2 zw kw zh kh
    by_cases hlt : k < len
    · have hck := hc k hlt
      have Ok := hr k hlt
      clear hc hr
      generalize q k = x1 at *
      obtain ⟨K, so, sn, sc, lo, n, cap1, t⟩ := x1
      obtain ⟨h0, h1, h2, h3⟩ := hck
      obtain ⟨⟨S, hS⟩, sS, ⟨A, hA⟩, sA, hl⟩ := Ok
      dsimp only at h0 h1 h2 h3 hS sS hA sA hl
      obtain ⟨⟨ct⟩⟩ := t
      dsimp only at hl
      have HC : Hid (w.cell? ⟨b, off + k * 4, none⟩ = some (.int .i64 K) ∧ w.cell? ⟨b, off + k * 4 + 1, none⟩ = some (.slice so sn sc) ∧ w.cell? ⟨b, off + k * 4 + 2, none⟩ = some (.slice lo n cap1) ∧ w.cell? ⟨b, off + k * 4 + 3, none⟩ = some (.string ⟨⟨ct⟩⟩)) := ⟨h0, h1, h2, h3⟩
      rw [← BV.cell (p := ⟨b, _, none⟩) hb] at h0 h1 h2 h3
      have hsr := hS.room
      have har := hA.room
      have lbS : 0 < sn → ∀ b off, so = some ⟨b, off, none⟩ → b < w.heap.size := fun h0 b' off' e => by
        obtain ⟨b2, off2, e2, hb2, _⟩ := hS.cells h0
        rw [e2] at e
        injection e with e
        injection e with e3
        omega
      have lbA : 0 < n → ∀ b off, lo = some ⟨b, off, none⟩ → b < w.heap.size := fun h0 b' off' e => by
        obtain ⟨b2, off2, e2, hb2, _⟩ := hA.cells h0
        rw [e2] at e
        injection e with e
        injection e with e3
        omega
      have hlt' : decide ((k : Int) < (len : Nat)) = true := by simp; omega
      have hwne : w1.heap.size + 1 ≠ w1.heap.size := by omega
      have hz := fun V => opsz10_any K so lo sn sc n cap1 ct V (by omega) (by omega) (by omega)
      have hwl := (Array.getElem?_eq_some_iff.1 hwk).1
      have HW : Hid (wr.heap[w1.heap.size + 1]? = some (.cells #[.int .i64 x] 33 (0, 0))) := hwk
      have HF : Hid (Fre wr w.heap.size w1.heap.size) := hF
      clear hwk hF
      by_cases hov : 4194304 < x + 100 + ((sn : Int) + (n : Int) + (ct.length : Int))
      · go_wp2_with (first
          | (go_at_call 6; (with_reducible refine (hz _).mono ?_); rintro e W1 ⟨rfl, kz⟩; have zk1 := (kz.block (w1.heap.size + 1) hwl).trans HW.out; have c1 : W1.cell? ⟨w1.heap.size + 1, 0, none⟩ = some (.int .i64 x) := (cell_of_row W1 _ 0 _ 33 (0, 0) zk1).trans rfl; have f1 : W1.frozen? ⟨w1.heap.size + 1, 0, none⟩ = false := frozen_of_row W1 _ 0 _ 33 zk1; have cO := over_any (w1.heap.size + 1) x _ W1 c1 f1 hx0 hx1 (show (0 : Int) ≤ (sn : Int) + (n : Int) + (ct.length : Int) by omega) (by omega); rw [show decide (4194304 < x + 100 + ((sn : Int) + (n : Int) + (ct.length : Int))) = true from by simpa using hov] at cO)
          | (go_at_call 5; (with_reducible refine cO.mono ?_); rintro e W2 ⟨rfl, hW2⟩))
        go_ret
        exact ⟨rfl, (BV.trans (kz.mono BV.size)).setCell (p := ⟨w1.heap.size + 1, 0, none⟩) (by have := b1.size; show w.heap.size ≤ w1.heap.size + 1; omega) _⟩
      · go_wp2_with (first
          | (go_at_call 6; (with_reducible refine (hz _).mono ?_); rintro e W1 ⟨rfl, kz⟩; have zk1 := (kz.block (w1.heap.size + 1) hwl).trans HW.out; have c1 : W1.cell? ⟨w1.heap.size + 1, 0, none⟩ = some (.int .i64 x) := (cell_of_row W1 _ 0 _ 33 (0, 0) zk1).trans rfl; have f1 : W1.frozen? ⟨w1.heap.size + 1, 0, none⟩ = false := frozen_of_row W1 _ 0 _ 33 zk1; have cO := over_any (w1.heap.size + 1) x _ W1 c1 f1 hx0 hx1 (show (0 : Int) ≤ (sn : Int) + (n : Int) + (ct.length : Int) by omega) (by omega); rw [show decide (4194304 < x + 100 + ((sn : Int) + (n : Int) + (ct.length : Int))) = false from by simpa using hov] at cO)
          | (go_at_call 5; (with_reducible refine cO.mono ?_); rintro e W2 ⟨rfl, hW2⟩; obtain ⟨F2, Z2⟩ := (HF.out.belowB kz).over zk1 hwne (x + 100 + ((sn : Int) + (n : Int) + (ct.length : Int))); rw [← hW2] at F2 Z2; have B2 : Below w.heap.size w W2 := (by rw [hW2]; exact (BV.trans (kz.mono BV.size)).setCell (p := ⟨w1.heap.size + 1, 0, none⟩) (by have := b1.size; show w.heap.size ≤ w1.heap.size + 1; omega) _); clear hW2; obtain ⟨j0, j1, j2, j3⟩ := HC.out; rw [← B2.cell (p := ⟨b, _, none⟩) hb] at j0 j1 j2 j3; have hp := plays_any K w1.heap.size w.heap.size so lo sn sc n cap1 S A ct W2 F2 (hS.low lbS B2) sS (hA.low lbA B2) sA lbS lbA (by omega) (by omega) B2.size (fun V k => T.below (B2.trans k)) (by omega))
          | (go_at_call 7; (with_reducible refine hp.mono ?_); rintro e W3 ⟨rfl, F3, B3, N3⟩))
        go_roundw
        case rel => exact ⟨k + 1, x + 100 + ((sn : Int) + (n : Int) + (ct.length : Int)), by omega, by go_num, by omega, by omega, (N3.2 _ _ _ Z2 (by decide) (by decide) hwne).trans Z2, F3, B2.trans B3⟩
        case measure => simp [intOf]; omega
    · go_wp2
      go_returns
      exact ⟨rfl, BV⟩
theorem allS_empty (a : Option Addr) (cap : Nat) (w : World) (T : Tb w) :
    Calls Tryz.prog 3 #[.slice a 0 cap] w fun e w' => e = .returned (.bool true) ∧ Below w.heap.size w w' := by
  have hcB := fun V => begun10_any V
  go_enter Tryz.func3, Tryz.ntmps3
  go_wp2_with (go_at_call 4; (with_reducible refine (hcB _ T).mono ?_); rintro e w1 ⟨rfl, b1⟩)
  refine wp_loop_rounds 1 ?_
  rw [rounds_succ]
  have kh := box_below w1 (.cells #[.slice none 0 0, .slice none 0 0] 30)
  have kw := box_below (w1.alloc (.cells #[.slice none 0 0, .slice none 0 0] 30)) (.cells #[.int .i64 0] 33)
  have b3 := (b1.trans (kh.mono b1.size)).trans (kw.mono (by have := b1.size; simp; omega))
  go_wp2
  go_returns
  exact ⟨rfl, b3⟩
end Go.Proofs.YtppcfpiihkaopaaGreatDoor
