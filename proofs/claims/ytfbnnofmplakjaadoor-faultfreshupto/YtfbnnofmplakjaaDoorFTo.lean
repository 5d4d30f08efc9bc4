
/- An error told right behind each step: the walk. -/

import Derived.Test.YtfbnnofmplakjaaDoorFZ

import Derived.Test.YtfbnnofmplakjaaDoorFT

namespace Go.Proofs.YtfbnnofmplakjaaDoor

open Go.RowKit Go.Extern.Stop Go.Stop Go.Extern

set_option linter.unusedVariables false

/-- Alive, between two rounds: box q holds the book, box q2 the first one. -/
def Lq (w : World) (q q2 : Nat) (b : Bs) (e0 : Value) (k : Nat) (e : Value) (wr : World) : Prop :=
  ∃ (ls : List Lk) (na : Option Addr) (nc : Nat), Ch wr e ls b ∧ ls.length ≤ k ∧ St wr w.heap.size (.slice na (nms ls).length nc) (nms ls) ∧
    wr.heap[q]? = some (.cells #[.bool true, .int .i64 (cdE b), .int .i64 (plc b), .slice na (nms ls).length nc, .string ⟨(tx ls b).toArray⟩] 29 (0, 0)) ∧ wr.heap[q2]? = some (.cells #[.bool true, .int .i64 (cdE b), .int .i64 (plc b), .slice none 0 0, .string ⟨(tx [] b).toArray⟩] 29 (0, 0)) ∧ Ch wr e0 [] b ∧ (w.heap.size ≤ q ∧ q ≠ q2) ∧ (tx ls b).length ≤ 2097152 + k * 1048585 ∧ Below w.heap.size w wr
theorem Lq.next {w : World} {q q2 : Nat} {b : Bs} {e0 : Value} {k : Nat} {wr w1 : World} {ls : List Lk} {na : Option Addr} {nc : Nat} {kk : Int} {nm : List UInt8} (hlen : ls.length ≤ k) (hr : St wr w.heap.size (.slice na (nms ls).length nc) (nms ls))
    (hq : wr.heap[q]? = some (.cells #[.bool true, .int .i64 (cdE b), .int .i64 (plc b), .slice na (nms ls).length nc, .string ⟨(tx ls b).toArray⟩] 29 (0, 0))) (hq2 : wr.heap[q2]? = some (.cells #[.bool true, .int .i64 (cdE b), .int .i64 (plc b), .slice none 0 0, .string ⟨(tx [] b).toArray⟩] 29 (0, 0))) (h0 : Ch wr e0 [] b) (hwq : w.heap.size ≤ q ∧ q ≠ q2) (htx : (tx ls b).length ≤ 2097152 + k * 1048585) (hb : Below w.heap.size w wr) (hn : nm.length ≤ 1048576)
    {e' : Value} {na' : Option Addr} {nn' nc' : Nat} (hc : Ch w1 e' (stp ls kk nm) b) (hs : St w1 w.heap.size (.slice na' nn' nc') (nms (stp ls kk nm))) (hg : wr.grownBy w1 (Value.slice na (nms ls).length nc).ownBlock) :
    nn' = (nms (stp ls kk nm)).length ∧ Lq w q q2 b e0 (k + 1) e' (wr5 w1 q (.bool true) (.int .i64 (cdE b)) (.int .i64 (plc b)) (.slice na' (nms (stp ls kk nm)).length nc') (.string ⟨(tx (stp ls kk nm) b).toArray⟩)) := by
  have hq1 : w1.heap[q]? = _ := (hg.block q (heap_lt hq) (row_ne hr hq).symm).trans hq
  have hq21 : w1.heap[q2]? = _ := (hg.block q2 (heap_lt hq2) (row_ne hr hq2).symm).trans hq2
  have h1 := stp_len ls kk nm
  have h2 := stp_tx ls kk nm b
  have hbb : Below w.heap.size w w1 := hb.grown hg hb.size fun j hj => (hr.lt j hj).1
  have hnn : nn' = (nms (stp ls kk nm)).length := by
    obtain ⟨a, c, e⟩ := own_slice hs
    injection e
  subst hnn
  refine ⟨rfl, stp ls kk nm, na', nc', wr5_ch' hq1 _ _ _ _ _ hc, by omega, wr5_own hq1 _ _ _ _ _ hs, wr5_blk hq1 _ _ _ _ _, ?_, wr5_ch' hq1 _ _ _ _ _ (h0.grown hg hr), hwq, ?_, wr5_below _ _ _ _ _ hbb hwq.1⟩
  · have O := (((((Only.refl q q w1).set ⟨q, 0, none⟩ (.bool true) (.inl rfl)).set ⟨q, 1, none⟩ (.int .i64 (cdE b)) (.inl rfl)).set ⟨q, 2, none⟩ (.int .i64 (plc b)) (.inl rfl)).set ⟨q, 3, none⟩ (.slice na' (nms (stp ls kk nm)).length nc') (.inl rfl)).set ⟨q, 4, none⟩ (.string ⟨(tx (stp ls kk nm) b).toArray⟩) (.inl rfl)
    rw [O.block q2 (Ne.symm hwq.2) (Ne.symm hwq.2)]; exact hq21
  · have : (k + 1) * 1048585 = k * 1048585 + 1048585 := by omega
    omega
theorem Lq.below {w : World} {q q2 : Nat} {b : Bs} {e0 : Value} {k : Nat} {e : Value} {wr wr' : World} (h : Lq w q q2 b e0 k e wr) (kb : Below wr.heap.size wr wr') : Lq w q q2 b e0 k e wr' := by
  obtain ⟨ls, na, nc, h1, h2, h3, h4, h5, h6, h7, h8, h9⟩ := h
  exact ⟨ls, na, nc, Ch.below kb (Nat.le_refl _) h1, h2, own_below h3 kb, heap_at h4 kb (Nat.le_refl _), heap_at h5 kb (Nat.le_refl _), Ch.below kb (Nat.le_refl _) h6, h7, h8, h9.trans (kb.mono h9.size)⟩
/-- What was written down is told. -/
theorem Lq.told {w : World} {q q2 : Nat} {b : Bs} {e0 : Value} {k : Nat} {e : Value} {wr : World} (h : Lq w q q2 b e0 k e wr) (T : Tb w) (hk : k ≤ 1048577) : ∃ (na : Option Addr) (n nc : Nat) (t : List UInt8),
    (wr.cell? ⟨q, 0, none⟩ = some (.bool true) ∧ wr.cell? ⟨q, 1, none⟩ = some (.int .i64 (cdE b)) ∧ wr.cell? ⟨q, 2, none⟩ = some (.int .i64 (plc b)) ∧ wr.cell? ⟨q, 3, none⟩ = some (.slice na n nc) ∧ wr.cell? ⟨q, 4, none⟩ = some (.string ⟨t.toArray⟩)) ∧
    Calls Tryd.prog 10 #[e, bk b na n nc t] wr fun r w' => r = .returned (.bool true) ∧ Below wr.heap.size wr w' := by
  obtain ⟨ls, na, nc, h1, h2, h3, h4, h5, h6, h7, h8, h9⟩ := h
  exact ⟨na, _, nc, _, ⟨cell_of h4 rfl, cell_of h4 rfl, cell_of h4 rfl, cell_of h4 rfl, cell_of h4 rfl⟩, told_live wr _ e na nc ls b h1 h3 (by omega) (by omega) (T.below h9)⟩
theorem Lq.first {w : World} {q q2 : Nat} {b : Bs} {e0 : Value} {k : Nat} {e : Value} {wr : World} (h : Lq w q q2 b e0 k e wr) (T : Tb w) (ht : (tx [] b).length ≤ 140737488355328) :
    (wr.cell? ⟨q2, 0, none⟩ = some (.bool true) ∧ wr.cell? ⟨q2, 1, none⟩ = some (.int .i64 (cdE b)) ∧ wr.cell? ⟨q2, 2, none⟩ = some (.int .i64 (plc b)) ∧ wr.cell? ⟨q2, 3, none⟩ = some (.slice none 0 0) ∧ wr.cell? ⟨q2, 4, none⟩ = some (.string ⟨(tx [] b).toArray⟩)) ∧
    Calls Tryd.prog 10 #[e0, bk b none 0 0 (tx [] b)] wr fun r w' => r = .returned (.bool true) ∧ Below wr.heap.size wr w' := by
  obtain ⟨ls, na, nc, h1, h2, h3, h4, h5, h6, h7, h8, h9⟩ := h
  exact ⟨⟨cell_of h5 rfl, cell_of h5 rfl, cell_of h5 rfl, cell_of h5 rfl, cell_of h5 rfl⟩, told_live wr w.heap.size e0 none 0 [] b h6 (World.ownsRow_nil _ _ _ _) (by simp) ht (T.below h9)⟩

theorem told_first (w : World) (B : Nat) (e : Value) (b : Bs) (h : Ch w e [] b) (ht : (tx [] b).length ≤ 140737488355328) (T : Tb w) :
    Calls Tryd.prog 10 #[e, bk b none 0 0 (tx [] b)] w fun r w' => r = .returned (.bool true) ∧ Below w.heap.size w w' :=
  told_live w B e none 0 [] b h (World.ownsRow_nil _ _ _ _) (by simp) ht T
set_option maxHeartbeats 4000000 in
theorem toldlaw_live (kind c p : Int) (t : List UInt8) (so : Option Addr) (N cap : Nat) (xs : List (Int × List UInt8)) (w : World) (b : Bs) (hbg : Bg kind c p t = some b) (hbt : (tx [] b).length ≤ 2097152) (h0 : -9223372036854775808 ≤ c ∧ c ≤ 9223372036854775807) (h1 : -9223372036854775808 ≤ p ∧ p ≤ 9223372036854775807) (T : Tb w) (hS : Sp w so N xs) (hN : N ≤ 1048576) (hX : ∀ x ∈ xs, x.2.length ≤ 1048576) (ht : t.length ≤ 1048576) :
    Calls Tryd.prog 3 #[.int .i64 kind, .int .i64 c, .int .i64 p, .string ⟨t.toArray⟩, .slice so N cap] w fun r w' => r = .returned (.bool true) ∧ Below w.heap.size w w' := by
  have cA := awake_any w T
  have cB : ∀ V, Tb V → _ := fun V hV => begun_live kind c p t V b hbg h0 h1 hV
  have HN : Hid (xs.length = N) := hS.len
  have HT : Hid ((tx [] b).length ≤ 2097152) := hbt
  have HX : Hid (∀ x ∈ xs, x.2.length ≤ 1048576) := hX
  have HM : Hid (N ≤ 1048576 ∧ t.length ≤ 1048576) := ⟨hN, ht⟩
  clear hbg hbt hX hN ht h0 h1
  go_enter Tryd.func3, Tryd.ntmps3
  go_upto_region 3 with (first
    | (go_at_call 8; (with_reducible refine cA.mono ?_); rintro e w1 ⟨rfl, b1⟩; have T1 := T.below b1; have cB1 := cB _ T1)
    | (go_at_call 9; (with_reducible refine cB1.mono ?_); rintro e w2 ⟨e2, rfl, hc2, b2⟩))
  have K2 := b1.trans (b2.mono b1.size)
  have bq := box_below w2 (.cells #[.bool true, .int .i64 (cdE b), .int .i64 (plc b), .slice none 0 0, .string ⟨(tx [] b).toArray⟩] 29)
  have nq := new_blk w2 (.cells #[.bool true, .int .i64 (cdE b), .int .i64 (plc b), .slice none 0 0, .string ⟨(tx [] b).toArray⟩] 29)
  have K3 := K2.trans (bq.mono K2.size)
  have hc3 := Ch.below bq (Nat.le_refl _) hc2
  have hwq : w.heap.size ≤ w2.heap.size := K2.size
  have cT := told_first _ w.heap.size e2 b hc3 (by have := HT.out; omega) (T.below K3)
  generalize w2.heap.size = q at *
  generalize w2.alloc (.cells #[.bool true, .int .i64 (cdE b), .int .i64 (plc b), .slice none 0 0, .string ⟨(tx [] b).toArray⟩] 29) = W0 at *
  have c0 : W0.cell? ⟨q, 0, none⟩ = some (.bool true) := cell_of nq rfl
  have c1 : W0.cell? ⟨q, 1, none⟩ = some (.int .i64 (cdE b)) := cell_of nq rfl
  have c2 : W0.cell? ⟨q, 2, none⟩ = some (.int .i64 (plc b)) := cell_of nq rfl
  have c3 : W0.cell? ⟨q, 3, none⟩ = some (.slice none 0 0) := cell_of nq rfl
  have c4 : W0.cell? ⟨q, 4, none⟩ = some (.string ⟨(tx [] b).toArray⟩) := cell_of nq rfl
  clear cA cB cB1 T1 hc2 b1 b2 K2 bq
  go_upto_region 5 with (go_at_call 10; (with_reducible refine cT.mono ?_); rintro e w5 ⟨rfl, b5⟩; have nq5 := heap_at nq b5 (Nat.le_refl _); have hc5 := Ch.below b5 (Nat.le_refl _) hc3; have K5 := K3.trans (b5.mono K3.size); have d0 : w5.cell? ⟨q, 0, none⟩ = some (.bool true) := cell_of nq5 rfl; have d1 : w5.cell? ⟨q, 1, none⟩ = some (.int .i64 (cdE b)) := cell_of nq5 rfl; have d2 : w5.cell? ⟨q, 2, none⟩ = some (.int .i64 (plc b)) := cell_of nq5 rfl; have d3 : w5.cell? ⟨q, 3, none⟩ = some (.slice none 0 0) := cell_of nq5 rfl; have d4 : w5.cell? ⟨q, 4, none⟩ = some (.string ⟨(tx [] b).toArray⟩) := cell_of nq5 rfl)
  clear c0 c1 c2 c3 c4 cT K3 nq hc3
  go_upto_region 6 with fail
  have bq := box_below w5 (.cells #[.bool true, .int .i64 (cdE b), .int .i64 (plc b), .slice none 0 0, .string ⟨(tx [] b).toArray⟩] 29)
  have L0 : Lq w q w5.heap.size b e2 0 e2 (w5.alloc (.cells #[.bool true, .int .i64 (cdE b), .int .i64 (plc b), .slice none 0 0, .string ⟨(tx [] b).toArray⟩] 29)) := ⟨[], none, 0, Ch.below bq (Nat.le_refl _) hc5, Nat.le_refl _, World.ownsRow_nil _ _ _ _, heap_at nq5 bq (Nat.le_refl _), new_blk _ _, Ch.below bq (Nat.le_refl _) hc5, ⟨hwq, Nat.ne_of_lt (heap_lt nq5)⟩, by have := HT.out; omega, K5.trans (bq.mono K5.size)⟩
  generalize w5.heap.size = q2 at *
  generalize w5.alloc (.cells #[.bool true, .int .i64 (cdE b), .int .i64 (plc b), .slice none 0 0, .string ⟨(tx [] b).toArray⟩] 29) = W5 at *
  clear d0 d1 d2 d3 d4 nq5 hc5 K5 bq b5 hwq
  have hsz0 : t.length ≤ 8796093022208 := by have := HM.out.2; omega
  go_wp2
  go_loopg [12, 14, 17, 18] N (fun g s12 s14 s17 s18 wr => ∃ k sz : Nat, k ≤ N ∧ g = N - k ∧ s14 = .bool true ∧ s17 = .int .i64 (sz : Nat) ∧ s18 = .int .i64 (k : Nat) ∧ sz ≤ 8796093022208 ∧ Lq w q q2 b e2 k s12 wr)
  case atStart => exact ⟨0, t.length, Nat.zero_le _, rfl, rfl, rfl, rfl, hsz0, L0⟩
  case round =>
    clear L0 hsz0
    obtain ⟨k, sz, hk, rfl, rfl, rfl, rfl, hsz, hL⟩ := hrel
    by_cases hlt : k < N
    · by_cases hz : sz < 65536
      · have hL' := hL
        obtain ⟨ls, na, nc, hch, hlen, hst, hq, hq2, h0, hwq, htx, hbw⟩ := hL
        have hS' := hS.below hbw (Nat.le_refl _)
        obtain ⟨sb, off, rfl, hsb, hcells⟩ := hS'.cells (by omega)
        have hx : ∃ x, xs[k]? = some x := ⟨xs[k]'(by rw [HN.out]; exact hlt), List.getElem?_eq_getElem _⟩
        obtain ⟨⟨kk, nm⟩, hx⟩ := hx
        obtain ⟨x0, x1⟩ := hcells k _ hx
        have hnm : nm.length ≤ 1048576 := HX.out _ (List.mem_of_getElem? hx)
        have hN := HM.out.1
        have c0 : wr.cell? ⟨q, 0, none⟩ = some (.bool true) := cell_of hq rfl
        have c1 : wr.cell? ⟨q, 1, none⟩ = some (.int .i64 (cdE b)) := cell_of hq rfl
        have c2 : wr.cell? ⟨q, 2, none⟩ = some (.int .i64 (plc b)) := cell_of hq rfl
        have c3 : wr.cell? ⟨q, 3, none⟩ = some (.slice na (nms ls).length nc) := cell_of hq rfl
        have c4 : wr.cell? ⟨q, 4, none⟩ = some (.string ⟨(tx ls b).toArray⟩) := cell_of hq rfl
        have bd : Below wr.heap.size wr wr.drew := (Below.refl _ _).drew
        have hkk : k * 1048585 ≤ 1048576 * 1048585 := Nat.mul_le_mul_right _ (by omega)
        have cM := more_any wr.drew w.heap.size u12 na (nms ls).length nc ls b kk nm (Ch.below bd (Nat.le_refl _) hch) (own_below hst bd) hbw.size (by omega) (by omega) (by omega)
        have HH : Hid (ls.length ≤ k ∧ St wr.drew w.heap.size (.slice na (nms ls).length nc) (nms ls) ∧ wr.drew.heap[q]? = some (.cells #[.bool true, .int .i64 (cdE b), .int .i64 (plc b), .slice na (nms ls).length nc, .string ⟨(tx ls b).toArray⟩] 29 (0, 0)) ∧ wr.drew.heap[q2]? = some (.cells #[.bool true, .int .i64 (cdE b), .int .i64 (plc b), .slice none 0 0, .string ⟨(tx [] b).toArray⟩] 29 (0, 0)) ∧ Ch wr.drew e2 [] b ∧ (w.heap.size ≤ q ∧ q ≠ q2) ∧ (tx ls b).length ≤ 2097152 + k * 1048585 ∧ Below w.heap.size w wr.drew ∧ nm.length ≤ 1048576) := ⟨hlen, own_below hst bd, hq, hq2, Ch.below bd (Nat.le_refl _) h0, hwq, htx, hbw.drew, hnm⟩
        have BB : Hid (N ≤ 1048576 ∧ sz + (tx ls b).length ≤ 8796093022208) := ⟨hN, by omega⟩
        have t1 : decide ((k : Int) < (N : Int)) = true := by simp [hlt]
        have t2' : (sz : Int) < 65536 := by omega
        have t2 : decide ((sz : Int) < 65536) = true := by simp [t2']
        have ws : IntKind.i64.wrap ((sz : Int) + ((tx ls b).length : Int)) = (sz : Int) + ((tx ls b).length : Int) := wrapIn _ (by omega)
        clear hcells hS' hx hch hlen hst hq hq2 h0 bd hnm htx hz hsz hkk hN hL' hwq hbw
        go_upto_region 11 with fail
        go_cut [12] from 54 to 63 (fun s12 V => Lq w q q2 b e2 (k + 1) s12 V)
        case first =>
          go_region_with (go_at_call 11; (with_reducible refine cM.mono ?_); rintro e w3 ⟨e3, na', nn', nc', rfl, hc3, hs3, hg3⟩; have LN := Lq.next HH.out.1 HH.out.2.1 HH.out.2.2.1 HH.out.2.2.2.1 HH.out.2.2.2.2.1 HH.out.2.2.2.2.2.1 HH.out.2.2.2.2.2.2.1 HH.out.2.2.2.2.2.2.2.1 HH.out.2.2.2.2.2.2.2.2 hc3 hs3 hg3; obtain ⟨rfl, LN⟩ := LN; have hq3 : w3.heap[q]? = some (.cells #[.bool true, .int .i64 (cdE b), .int .i64 (plc b), .slice na (nms ls).length nc, .string ⟨(tx ls b).toArray⟩] 29 (0, 0)) := (hg3.block q (heap_lt HH.out.2.2.1) (row_ne HH.out.2.1 HH.out.2.2.1).symm).trans HH.out.2.2.1; have e0 : w3.cell? ⟨q, 0, none⟩ = some (.bool true) := cell_of hq3 rfl; have e1 : w3.cell? ⟨q, 1, none⟩ = some (.int .i64 (cdE b)) := cell_of hq3 rfl; have e2 : w3.cell? ⟨q, 2, none⟩ = some (.int .i64 (plc b)) := cell_of hq3 rfl; have e3 : w3.cell? ⟨q, 3, none⟩ = some (.slice na (nms ls).length nc) := cell_of hq3 rfl; have e4 : w3.cell? ⟨q, 4, none⟩ = some (.string ⟨(tx ls b).toArray⟩) := cell_of hq3 rfl; have ef : ∀ j, w3.frozen? ⟨q, j, none⟩ = false := fun j => own_cell hq3 j)
          all_goals
            go_wp2
            go_meet
            case rel => exact LN
        case rest =>
          obtain ⟨W6, hW6⟩ : ∃ W, W = wc := ⟨_, rfl⟩
          subst hW6
          have L6 := hcut
          obtain ⟨na6, n6, nc6, t6, ⟨f0, f1, f2, f3, f4⟩, cT6⟩ := L6.told T (by have := BB.out.1; omega)
          clear c0 c1 c2 c3 c4 x0 x1 cM
          go_upto_region 12 with fail
          go_wp2_with (go_at_call 10; (with_reducible refine cT6.mono ?_); rintro e w7 ⟨rfl, b7⟩)
          go_roundg (N - (k + 1))
          case measure => omega
          case rel => exact ⟨k + 1, sz + (tx ls b).length, by omega, rfl, rfl, by go_num, (by have h1 := BB.out.1; refine congrArg (Value.int .i64) ?_; unfold wrap64; omega), BB.out.2, L6.below b7⟩
      · have t1 : decide ((k : Int) < (N : Int)) = true := by simp [hlt]
        have t2' : ¬ (sz : Int) < 65536 := by omega
        have t2 : decide ((sz : Int) < 65536) = false := by simp [t2']
        obtain ⟨⟨c0, c1, c2, c3, c4⟩, cF⟩ := hL.first T (by have := HT.out; omega)
        obtain ⟨_, _, _, _, _, _, _, _, _, _, _, hbw⟩ := hL
        clear hz hsz hS
        go_wp2_with (go_at_call 10; (with_reducible refine cF.mono ?_); rintro e w7 ⟨rfl, b7⟩)
        go_ret
        exact ⟨rfl, hbw.trans (b7.mono hbw.size)⟩
    · obtain rfl : k = N := by omega
      have t1 : decide ((k : Int) < (k : Int)) = false := by simp
      obtain ⟨⟨c0, c1, c2, c3, c4⟩, cF⟩ := hL.first T (by have := HT.out; omega)
      obtain ⟨_, _, _, _, _, _, _, _, _, _, _, hbw⟩ := hL
      clear hlt hsz hS
      go_wp2_with (go_at_call 10; (with_reducible refine cF.mono ?_); rintro e w7 ⟨rfl, b7⟩)
      go_ret
      exact ⟨rfl, hbw.trans (b7.mono hbw.size)⟩
end Go.Proofs.YtfbnnofmplakjaaDoor
