
/- Contract of turn. -/

import Derived.Test.YtppcfpiihkaopaaGreatDoorVG

namespace Go.Proofs.YtppcfpiihkaopaaGreatDoor

open Go.RowKit

set_option linter.unusedVariables false

theorem Rdr.setD {W : World} {B g : Nat} {s : List UInt8} {a f : Nat} {d : Int} {lo : Option Addr} {ln lc : Nat} {L : List Int} {no : Option Addr} {nn nc : Nat} {N : List Int} (h : Rdr W B g s a f d lo ln lc L no nn nc N) (d' : Int) : Rdr (W.setCell ⟨g, 3, none⟩ (.int .i64 d')) B g s a f d' lo ln lc L no nn nc N :=
  ⟨heap_setCell_same W g 3 _ 56 (.int .i64 d') h.row, h.fl.kind (set1 W g 3 _) h.row (by decide), h.fn.kind (set1 W g 3 _) h.row (by decide)⟩
theorem Rdr.setA {W : World} {B g : Nat} {s : List UInt8} {a f : Nat} {d : Int} {lo : Option Addr} {ln lc : Nat} {L : List Int} {no : Option Addr} {nn nc : Nat} {N : List Int} (h : Rdr W B g s a f d lo ln lc L no nn nc N) (a' : Nat) : Rdr (W.setCell ⟨g, 1, none⟩ (.int .i64 (a' : Int))) B g s a' f d lo ln lc L no nn nc N :=
  ⟨heap_setCell_same W g 1 _ 56 (.int .i64 (a' : Int)) h.row, h.fl.kind (set1 W g 1 _) h.row (by decide), h.fn.kind (set1 W g 1 _) h.row (by decide)⟩
theorem Rdr.setF {W : World} {B g : Nat} {s : List UInt8} {a f : Nat} {d : Int} {lo : Option Addr} {ln lc : Nat} {L : List Int} {no : Option Addr} {nn nc : Nat} {N : List Int} (h : Rdr W B g s a f d lo ln lc L no nn nc N) (f' : Nat) : Rdr (W.setCell ⟨g, 2, none⟩ (.int .i64 (f' : Int))) B g s a f' d lo ln lc L no nn nc N :=
  ⟨heap_setCell_same W g 2 _ 56 (.int .i64 (f' : Int)) h.row, h.fl.kind (set1 W g 2 _) h.row (by decide), h.fn.kind (set1 W g 2 _) h.row (by decide)⟩
theorem Rdr.set4 {W : World} {B g : Nat} {s : List UInt8} {a f : Nat} {d : Int} {lo : Option Addr} {ln lc : Nat} {no : Option Addr} {nn nc : Nat} {co : Option Addr} {cn cc : Nat} {L N : List Int}
    (hr : W.heap[g]? = some (.cells #[.string ⟨s.toArray⟩, .int .i64 (a : Int), .int .i64 (f : Int), .int .i64 d, .slice lo ln lc, .slice no nn nc] 56 (0, 0))) (hl : Ft 3 W B co cn cc L) (hn : Ft 2 W B no nn nc N) : Rdr (W.setCell ⟨g, 4, none⟩ (.slice co cn cc)) B g s a f d co cn cc L no nn nc N :=
  ⟨heap_setCell_same W g 4 _ 56 (.slice co cn cc) hr, hl.kind (set1 W g 4 _) hr (by decide), hn.kind (set1 W g 4 _) hr (by decide)⟩
set_option maxHeartbeats 2000000 in
theorem turn_any (W : World) (B g : Nat) (s : List UInt8) (a f : Nat) (d : Int) (lo : Option Addr) (ln lc : Nat) (L : List Int) (no : Option Addr) (nn nc : Nat) (N : List Int) (h : Rdr W B g s a f d lo ln lc L no nn nc N) (hnn : ln + nn ≤ 1048576) (hBg : B ≤ g) (hBW : B ≤ W.heap.size) :
    Calls Tryz.prog 45 #[.pointer (some ⟨g, 0, none⟩)] W fun e W' => (∃ v, e = .returned v) ∧ ∃ co cc, Rdr W' B g s a f (a : Int) co (ln + nn) cc (L ++ N) none 0 0 [] ∧ Below B W W' := by
  obtain ⟨c0, c1, c2, c3, c4, c5, cz⟩ := box6 h.row
  have cz3 := cz 3
  have R0 := h.setD (a : Int)
  have K0 : Below B W (W.setCell ⟨g, 3, none⟩ (.int .i64 (a : Int))) := (Below.refl B W).setCell (p := ⟨g, 3, none⟩) hBg _
  obtain ⟨x0, x1, x2, x3, x4, x5, xz⟩ := box6 R0.row
  have HN : Hid (N.length = nn) := h.fn.rd.len
  go_enter Tryz.func45, Tryz.ntmps45
  go_upto_region 2 with fail
  generalize W.setCell ⟨g, 3, none⟩ (.int .i64 (a : Int)) = W0 at *
  go_loopw [16] (fun i wr => ∃ (k : Nat) (co : Option Addr) (cc : Nat), k ≤ nn ∧ i = .int .i64 (k : Nat) ∧ Rdr wr B g s a f (a : Int) co (ln + k) cc (L ++ N.take k) no nn nc N ∧ Below B W wr) (fun i _ => nn - (intOf i).toNat)
  case atStart => exact ⟨0, lo, lc, Nat.zero_le _, rfl, (by rw [List.take_zero, List.append_nil]; exact R0), K0⟩
  case round =>
    clear R0 K0 x0 x1 x2 x3 x4 x5 xz c0 c1 c2 c3 c4 c5 cz cz3
    obtain ⟨k, co, cc, hk, rfl, hR, hb⟩ := hrel
    by_cases hlt : k < nn
    · obtain ⟨b, off, rfl, hbb, hc⟩ := hR.fn.rd.cells (by omega)
      have e1 := hc k hlt
      have hz := hR.fn.rd.num k hlt
      obtain ⟨x0, x1, x2, x3, x4, x5, xz⟩ := box6 hR.row
      have k2 := box_below wr (.cells #[.int .i64 (nth N k)] 3)
      have R2 := hR.below k2
      obtain ⟨y0, y1, y2, y3, y4, y5, yz⟩ := box6 R2.row
      have FV := ft_new 3 wr [nth N k] (by simp) (fun j hj => by
        have : j = 0 := by simpa using hj
        subst this; exact hz)
      have hB2 : B ≤ (wr.alloc (.cells #[.int .i64 (nth N k)] 3)).heap.size := by simp; have := hb.size; omega
      have HT : Hid (L ++ N.take (k + 1) = L ++ N.take k ++ [nth N k]) := by
        show _ = _
        have hkN : k < N.length := by have := HN.out; omega
        unfold nth
        rw [List.take_add_one, List.getElem?_eq_getElem hkN, List.getD_eq_getElem?_getD, List.getElem?_eq_getElem hkN, List.append_assoc]; rfl
      clear hc
      go_wp2_with (at_builtin; refine wpList_joinG2 tyI rfl _ _ rfl B co (some ⟨wr.heap.size, 0, none⟩) (ln + k) cc 1 1 (L ++ N.take k) [nth N k] rfl rfl R2.fl FV.rd FV.sl (by omega) hB2 ?_; intro co3 cc3 w7 f7 g7; have r7 := R2.fl.other g7 R2.row (by decide); have n7 := R2.fl.beside g7 R2.fn (by decide); have b7 := R2.fl.growsBelow g7 hB2; obtain ⟨u0, u1, u2, u3, u4, u5, uz⟩ := box6 r7; have u4z := uz 4)
      go_roundw
      case rel =>
        refine ⟨k + 1, co3, cc3, by omega, by go_num, (by rw [HT.out]; exact Rdr.set4 r7 f7 n7), ?_⟩
        have J2 := hb.trans (k2.mono hb.size |>.mono (by have := hb.size; omega))
        exact (J2.trans b7).setCell (p := ⟨g, 4, none⟩) hBg _
      case measure => simp [intOf]; omega
    · obtain rfl : k = nn := by omega
      rw [List.take_of_length_le (by have := HN.out; omega)] at hR
      obtain ⟨x0, x1, x2, x3, x4, x5, xz⟩ := box6 hR.row
      have xz5 := xz 5
      go_wp2
      go_end0
      exact ⟨⟨_, rfl⟩, co, cc, Rdr.set5 hR.row hR.fl (Ft.nil _ _ _), hb.setCell (p := ⟨g, 5, none⟩) hBg _⟩
end Go.Proofs.YtppcfpiihkaopaaGreatDoor
