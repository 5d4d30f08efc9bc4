
/- Trails are new memory: the walk. -/

import Derived.Test.YtfbnnofmplakjaaDoorFWd

import Derived.Deep.CutBlock

import Derived.Deep.QuietTactic

import Derived.BigQuiet

import Derived.Deep.OwnRows

import Derived.Deep.RegionLaw

import Derived.Deep.DeepAppendRoom

namespace Go.Proofs.YtfbnnofmplakjaaDoor

open Go.RowKit Go.Extern.Stop Go.Stop Go.Extern

set_option linter.unusedVariables false

def P1 (i : Nat) (l : List (List UInt8)) : Prop := l.length ≤ 1048577
/-- Between two rounds of the first loop. -/
def Lf (w : World) (q : Nat) (b : Bs) (k : Nat) (e s10 : Value) (sz : Nat) (wr : World) : Prop :=
  ∃ ls na nc vs lo lc, s10 = .slice lo vs.length lc ∧ Fq w q b e ls na nc (.slice lo vs.length lc) vs vs P1 wr ∧ ls.length ≤ k ∧ vs.length = 2 * k ∧ (tx ls b).length ≤ 2097152 + k * 1048585 ∧ sz ≤ 8796093022208
/-- Behind it. -/
def Df (w : World) (q : Nat) (b : Bs) (e s10 : Value) (V : World) : Prop :=
  ∃ ls na nc vs lo lc, s10 = .slice lo vs.length lc ∧ Fq w q b e ls na nc (.slice lo vs.length lc) vs vs P1 V ∧ vs.length ≤ 2097152 ∧ ls.length ≤ 1048577 ∧ (tx ls b).length ≤ 140737488355328
theorem Lf.done {w : World} {q : Nat} {b : Bs} {k : Nat} {e s10 : Value} {sz : Nat} {wr : World} (h : Lf w q b k e s10 sz wr) (hk : k ≤ 1048576) : Df w q b e s10 wr := by
  obtain ⟨ls, na, nc, vs, lo, lc, h1, h2, h3, h4, h5, h6⟩ := h
  exact ⟨ls, na, nc, vs, lo, lc, h1, h2, by omega, by omega, by omega⟩
theorem Lf.next {w W W7 W8 A W9 : World} {q : Nat} {b : Bs} {k sz : Nat} {e t1 t2 lv' : Value} {ls : List Lk} {na : Option Addr} {nc : Nat} {vs : List Value} {lo : Option Addr} {lc : Nat} (h : Fq w q b e ls na nc (.slice lo vs.length lc) vs vs P1 W) (h3 : ls.length ≤ k + 1) (h4 : vs.length = 2 * k) (h5 : (tx ls b).length ≤ 2097152 + (k + 1) * 1048585) (h6 : sz ≤ 8796093022208) (hk : k + 1 ≤ 1048576)
    (b7 : Below W.heap.size W W7) (s7 : St W7 W.heap.size t1 (nms ls)) (b8 : Below W7.heap.size W7 W8) (s8 : St W8 W7.heap.size t2 (nms ls)) (bA : Below W8.heap.size W8 A)
    (r9 : W9.ownsRow w.heap.size 27 1 lv' (vs ++ [t1, t2]).length (vs ++ [t1, t2])) (g9 : A.grownBy W9 (Value.slice lo vs.length lc).ownBlock) : Lf w q b (k + 1) e lv' sz W9 := by
  obtain ⟨lo', lc', e'⟩ : ∃ a c, lv' = .slice a (vs ++ [t1, t2]).length c := by
    rcases r9.2 with ⟨_, h0⟩ | ⟨g, cap, cur, e, _⟩
    · simp at h0
    · exact ⟨_, _, e⟩
  subst e'
  have hp : (nms ls).length ≤ 1048577 := Nat.le_trans (nms_len ls) (by omega)
  exact ⟨ls, na, nc, vs ++ [t1, t2], lo', lc', rfl, h.two b7 s7 b8 s8 bA r9 g9 hp hp, h3, by simp; omega, h5, h6⟩
def P2 (I k i : Nat) (l : List (List UInt8)) : Prop := l.length ≤ 1048577 ∧ (i < I → ∀ x ∈ l, x = mrk i) ∧ (i = I → ∀ j x, j < k → l[j]? = some x → x = mrk i)
theorem own_lo {W : World} {B n lc : Nat} {lo : Option Addr} {xs : List Value} (h : W.ownsRow B 27 1 (.slice lo n lc) n xs) {I : Nat} (hI : I < n) : ∃ lg, lo = some ⟨lg, 0, none⟩ := by
  rcases h.2 with ⟨_, h0⟩ | ⟨g, cap, cur, e, _⟩
  · omega
  · injection e with e1; exact ⟨g, e1⟩
theorem Fq.val {w : World} {q : Nat} {b : Bs} {e : Value} {ls : List Lk} {na : Option Addr} {nc : Nat} {lv : Value} {vs xs : List Value} {I k : Nat} {W : World} (h : Fq w q b e ls na nc lv vs xs (P2 I k) W) {i : Nat} {v : Value} (hi : xs[i]? = some v) : ∃ a n c, v = .slice a n c ∧ n ≤ 1048577 := by
  obtain ⟨l, hs, hp⟩ := h.rows.own i v hi
  obtain ⟨a, c, rfl⟩ := own_slice hs
  exact ⟨a, _, c, rfl, hp.1⟩
theorem Fq.cell {w : World} {q : Nat} {b : Bs} {e : Value} {ls : List Lk} {na : Option Addr} {nc lg lc : Nat} {vs xs : List Value} {P : Nat → List (List UInt8) → Prop} {W : World} (h : Fq w q b e ls na nc (.slice (some ⟨lg, 0, none⟩) vs.length lc) vs xs P W) {i : Nat} {v : Value} (hi : vs[i]? = some v) : W.cell? ⟨lg, i, none⟩ = some v := by
  rw [h.row.cellAt i (by have := (List.getElem?_eq_some_iff.1 hi).1; omega)]; exact hi
theorem st_cells' {W : World} {B n c : Nat} {a : Option Addr} {l : List (List UInt8)} (h : St W B (.slice a n c) l) {k : Nat} (hk : k < n) : ∃ g, a = some ⟨g, 0, none⟩ ∧ n = l.length := by
  obtain rfl : n = l.length := by obtain ⟨a, c, e⟩ := own_slice h; injection e
  obtain ⟨g, hg, _⟩ := st_cells h k hk
  exact ⟨g, hg, rfl⟩
theorem st_frozen {W : World} {B n c g : Nat} {l : List (List UInt8)} (h : St W B (.slice (some ⟨g, 0, none⟩) n c) l) (j : Nat) : W.frozen? ⟨g, j, none⟩ = false := by
  obtain rfl : n = l.length := by obtain ⟨a, c, e⟩ := own_slice h; injection e
  exact h.frozenAt j
theorem st_cell {W : World} {B n c g : Nat} {l : List (List UInt8)} (h : St W B (.slice (some ⟨g, 0, none⟩) n c) l) {k : Nat} (hk : k < n) : ∃ s, W.cell? ⟨g, k, none⟩ = some (.string s) := by
  obtain rfl : n = l.length := by obtain ⟨a, c, e⟩ := own_slice h; injection e
  obtain ⟨g', hg, hc⟩ := st_cells h k hk
  injection hg with hg; injection hg with hg; subst hg
  exact ⟨_, hc k hk⟩
theorem set_map (l : List (List UInt8)) (k : Nat) (x : List UInt8) : (l.map encStr).set k (encStr x) = (l.set k x).map encStr := by rw [List.map_set]
theorem mk_eq (I : Nat) : (⟨#[109, 97, 114, 107, 32]⟩ : ByteArray) ++ ⟨(Lib.itoa (I : Int)).toArray⟩ = ⟨(mrk I).toArray⟩ := by
  rw [show (⟨#[109, 97, 114, 107, 32]⟩ : ByteArray) = ⟨mkb.toArray⟩ from rfl, bs_app]; rfl
theorem Fq.mark {w : World} {q : Nat} {b : Bs} {e : Value} {ls : List Lk} {na : Option Addr} {nc : Nat} {lv : Value} {vs : List Value} {I k g nI cI : Nat} {W : World} (h : Fq w q b e ls na nc lv vs vs (P2 I k) W) (hI : vs[I]? = some (.slice (some ⟨g, 0, none⟩) nI cI)) (hk : k < nI) :
    Fq w q b e ls na nc lv vs vs (P2 I (k + 1)) (W.setCell ⟨g, k, none⟩ (.string ⟨(mrk I).toArray⟩)) := by
  obtain ⟨l, hs, h1, h2, h3⟩ := h.rows.own I _ hI
  obtain rfl : nI = l.length := by obtain ⟨a, c, e⟩ := own_slice hs; injection e
  obtain ⟨hst, hgr⟩ := hs.stored k (encStr (mrk I))
  rw [set_map] at hst
  have hst' : St (W.setCell ⟨g, k, none⟩ (.string ⟨(mrk I).toArray⟩)) w.heap.size (.slice (some ⟨g, 0, none⟩) l.length cI) (l.set k (mrk I)) := by
    unfold St
    rw [List.length_set]
    exact hst
  refine h.step hI rfl hgr rfl hst' ⟨by simpa using h1, fun hlt => by omega, fun _ j x hj hx => ?_⟩ (fun j l hne hp => ⟨hp.1, hp.2.1, fun e => absurd e hne⟩) (fun j u hj => ?_)
  · rw [List.getElem?_set] at hx
    split at hx
    · simpa using hx.symm
    · exact h3 rfl j x (by omega) hx
  · by_cases hne : j = I
    · subst hne
      rw [hI] at hj
      exact .inl ⟨rfl, (Option.some.inj hj).symm⟩
    · exact .inr ⟨hne, hj⟩
theorem Fq.marked {w : World} {q : Nat} {b : Bs} {e : Value} {ls : List Lk} {na : Option Addr} {nc : Nat} {lv : Value} {vs : List Value} {I n cI : Nat} {ao : Option Addr} {W : World} (h : Fq w q b e ls na nc lv vs vs (P2 I n) W) (hI : vs[I]? = some (.slice ao n cI)) : Fq w q b e ls na nc lv vs vs (P2 (I + 1) 0) W := by
  refine h.imp fun i v l hi hs hp => ⟨hp.1, fun hlt x hx => ?_, fun _ j x hj => by omega⟩
  by_cases he : i = I
  · subst he
    rw [hI] at hi
    obtain rfl := Option.some.inj hi
    obtain rfl : n = l.length := by obtain ⟨a, c, e⟩ := own_slice hs; injection e
    obtain ⟨j, hj⟩ := List.mem_iff_getElem?.1 hx
    exact hp.2.2 rfl j x (List.getElem?_eq_some_iff.1 hj).1 hj
  · exact hp.2.1 (by omega) x hx
theorem cell_below {w w' : World} {p : Addr} {v : Value} (h : w.cell? p = some v) (k : Below w.heap.size w w') : w'.cell? p = some v := by
  rw [World.cell?_of_block (k.block p.block (World.block_lt_of_cell? w p h))]; exact h
theorem one_slice (a : Option Addr) (n c : Nat) : (Value.slice a n c).oneCell' = true := rfl

set_option maxRecDepth 20000 in
set_option maxHeartbeats 8000000 in
theorem fresh_go (c cc p : Int) (so : Option Addr) (N cap : Nat) (xs : List (Int × List UInt8)) (w : World) (b : Bs) (hcc : (c = 0 ∧ cc = 17) ∨ (c ≠ 0 ∧ cc = c)) (hbg : Bg 1 cc p [] = some b) (hbt : (tx [] b).length ≤ 2097152) (h0 : -9223372036854775808 ≤ cc ∧ cc ≤ 9223372036854775807) (h1 : -9223372036854775808 ≤ p ∧ p ≤ 9223372036854775807) (T : Tb w) (hS : Sp w so N xs) (hN : N ≤ 1048576) (hX : ∀ x ∈ xs, x.2.length ≤ 1048576) :
    Calls Tryd.prog 7 #[.int .i64 c, .int .i64 p, .slice so N cap] w fun r w' => r = .returned (.bool true) ∧ Below w.heap.size w w' := by
  have cA := awake_any w T
  have cB : ∀ V, Tb V → _ := fun V hV => begun_live 1 cc p [] V b hbg h0 h1 hV
  have HN : Hid (xs.length = N) := hS.len
  have HT : Hid ((tx [] b).length ≤ 2097152) := hbt
  have HX : Hid (∀ x ∈ xs, x.2.length ≤ 1048576) := hX
  have HM : Hid (N ≤ 1048576) := hN
  have HC : Hid ((c = 0 ∧ cc = 17) ∨ (c ≠ 0 ∧ cc = c)) := hcc
  clear hbg hbt hX hN h0 h1 hcc
  go_enter Tryd.func7, Tryd.ntmps7
  go_upto_if 22 with (go_at_call 8; (with_reducible refine cA.mono ?_); rintro e w1 ⟨rfl, b1⟩; have T1 := T.below b1; have cB1 := cB _ T1)
  go_cut [0] from 21 to 22 (fun s0 V => s0 = .int .i64 cc ∧ V = w1)
  case first =>
    rcases HC.out with ⟨rfl, rfl⟩ | ⟨hc, rfl⟩
    · go_wp2
      go_meet
      case rel => exact ⟨rfl, rfl⟩
    · have hc' : (cc == 0) = false := by simp [hc]
      go_wp2
      go_meet
      case rel => exact ⟨rfl, rfl⟩
  case rest =>
  obtain ⟨rfl, hV⟩ := hcut
  subst hV
  go_upto_region 5 with (go_at_call 9; (with_reducible refine cB1.mono ?_); rintro e w2 ⟨e2, rfl, hc2, b2⟩)
  have K2 := b1.trans (b2.mono b1.size)
  have bq := box_below w2 (.cells #[.bool true, .int .i64 (cdE b), .int .i64 (plc b), .slice none 0 0, .string ⟨(tx [] b).toArray⟩] 29)
  have nq := new_blk w2 (.cells #[.bool true, .int .i64 (cdE b), .int .i64 (plc b), .slice none 0 0, .string ⟨(tx [] b).toArray⟩] 29)
  have K3 := K2.trans (bq.mono K2.size)
  have hc3 := Ch.below bq (Nat.le_refl _) hc2
  have L0 : Lf w w2.heap.size b 0 e2 (.slice none 0 0) 0 (w2.alloc (.cells #[.bool true, .int .i64 (cdE b), .int .i64 (plc b), .slice none 0 0, .string ⟨(tx [] b).toArray⟩] 29)) :=
    ⟨[], none, 0, [], none, 0, rfl, ⟨hc3, World.ownsRow_nil _ _ _ _, nq, World.ownsRow_nil _ _ _ _, ⟨fun i v hi => by simp at hi, fun i j v u g hi => by simp at hi⟩, fun i v g hi => by simp at hi, K3, K2.size⟩, Nat.le_refl _, rfl, by have := HT.out; omega, by omega⟩
  generalize w2.heap.size = q at *
  generalize w2.alloc (.cells #[.bool true, .int .i64 (cdE b), .int .i64 (plc b), .slice none 0 0, .string ⟨(tx [] b).toArray⟩] 29) = W0 at *
  clear cA cB cB1 T1 hc2 b1 b2 K2 bq nq K3 hc3
  go_upto_block 0 with fail
  go_cut [8, 10, 11, 12] from 29 to 65 (fun s8 s10 s11 s12 V => Df w q b s8 s10 V)
  case first =>
    go_wp2_with fail
    go_loopg [8, 10, 11, 12] N (fun g s8 s10 s11 s12 wr => ∃ k sz : Nat, k ≤ N ∧ g = N - k ∧ s11 = .int .i64 (sz : Nat) ∧ s12 = .int .i64 (k : Nat) ∧ Lf w q b k s8 s10 sz wr)
    case atStart => exact ⟨0, 0, Nat.zero_le _, rfl, rfl, rfl, L0⟩
    case round =>
      clear L0
      obtain ⟨k, sz, hk, rfl, rfl, rfl, hL⟩ := hrel
      by_cases hlt : k < N
      · by_cases hz : sz < 65536
        · obtain ⟨ls, na, nc, vs, lo, lc, rfl, hF, hlen, hvl, htx, hsz⟩ := hL
          have hS' := hS.below hF.bel (Nat.le_refl _)
          obtain ⟨sb, off, rfl, hsb, hcells⟩ := hS'.cells (by omega)
          have hx : ∃ x, xs[k]? = some x := ⟨xs[k]'(by rw [HN.out]; exact hlt), List.getElem?_eq_getElem _⟩
          obtain ⟨⟨kk, nm⟩, hx⟩ := hx
          obtain ⟨x0, x1⟩ := hcells k _ hx
          have hnm : nm.length ≤ 1048576 := HX.out _ (List.mem_of_getElem? hx)
          have hN := HM.out
          have hnl := nms_len ls
          have c0 : wr.cell? ⟨q, 0, none⟩ = some (.bool true) := cell_of hF.box rfl
          have c1 : wr.cell? ⟨q, 1, none⟩ = some (.int .i64 (cdE b)) := cell_of hF.box rfl
          have c2 : wr.cell? ⟨q, 2, none⟩ = some (.int .i64 (plc b)) := cell_of hF.box rfl
          have c3 : wr.cell? ⟨q, 3, none⟩ = some (.slice na (nms ls).length nc) := cell_of hF.box rfl
          have c4 : wr.cell? ⟨q, 4, none⟩ = some (.string ⟨(tx ls b).toArray⟩) := cell_of hF.box rfl
          have hkk : k * 1048585 ≤ 1048576 * 1048585 := Nat.mul_le_mul_right _ (by omega)
          have hFd := hF.below (Below.refl _ _).drew
          have cM := more_any_at wr.drew w.heap.size u8 na (nms ls).length nc ls b kk nm hFd.ch hFd.nm hFd.bel.size (by omega) (by omega) (by omega)
          have HH : Hid (Fq w q b u8 ls na nc (.slice lo vs.length lc) vs vs P1 wr.drew) := hFd
          have BB : Hid (N ≤ 1048576 ∧ sz + ((tx ls b).length + 100 * (nms ls).length) ≤ 8796093022208 ∧ vs.length = 2 * k ∧ ls.length ≤ k ∧ (tx ls b).length ≤ 2097152 + k * 1048585 ∧ nm.length ≤ 1048576) := ⟨hN, by omega, hvl, hlen, htx, hnm⟩
          have t1 : decide ((k : Int) < (N : Int)) = true := by simp [hlt]
          have t2' : (sz : Int) < 65536 := by omega
          have t2 : decide ((sz : Int) < 65536) = true := by simp [t2']
          have ws0 : IntKind.i64.wrap (100 * ((nms ls).length : Int)) = 100 * ((nms ls).length : Int) := wrapIn _ (by omega)
          have ws1 : IntKind.i64.wrap (((tx ls b).length : Int) + 100 * ((nms ls).length : Int)) = ((tx ls b).length : Int) + 100 * ((nms ls).length : Int) := wrapIn _ (by omega)
          have ws2 : IntKind.i64.wrap ((sz : Int) + (((tx ls b).length : Int) + 100 * ((nms ls).length : Int))) = (sz : Int) + (((tx ls b).length : Int) + 100 * ((nms ls).length : Int)) := wrapIn _ (by omega)
          clear hcells hS' hx hlen hvl htx hnm hz hsz hkk hN hF hFd hnl
          go_upto_region 11 with fail
          go_cut [8] from 49 to 58 (fun s8 V => ∃ na' nc', Fq w q b s8 (stp ls kk nm) na' nc' (.slice lo vs.length lc) vs vs P1 V)
          case first =>
            go_region_with (go_at_call 11; (with_reducible refine cM.mono ?_); rintro e w3 ⟨e3, na', nn', nc', rfl, hc3, hs3, hg3, ha3⟩; have LN := Fq.more HH.out hc3 hs3 hg3 ha3; obtain ⟨rfl, LN⟩ := LN; have hq3 : w3.heap[q]? = some (.cells #[.bool true, .int .i64 (cdE b), .int .i64 (plc b), .slice na (nms ls).length nc, .string ⟨(tx ls b).toArray⟩] 29 (0, 0)) := (hg3.block q (heap_lt HH.out.box) (row_ne HH.out.nm HH.out.box).symm).trans HH.out.box; have e0 : w3.cell? ⟨q, 0, none⟩ = some (.bool true) := cell_of hq3 rfl; have e1 : w3.cell? ⟨q, 1, none⟩ = some (.int .i64 (cdE b)) := cell_of hq3 rfl; have e2 : w3.cell? ⟨q, 2, none⟩ = some (.int .i64 (plc b)) := cell_of hq3 rfl; have e3 : w3.cell? ⟨q, 3, none⟩ = some (.slice na (nms ls).length nc) := cell_of hq3 rfl; have e4 : w3.cell? ⟨q, 4, none⟩ = some (.string ⟨(tx ls b).toArray⟩) := cell_of hq3 rfl; have ef : ∀ j, w3.frozen? ⟨q, j, none⟩ = false := fun j => own_cell hq3 j)
            all_goals
              go_wp2
              go_meet
              case rel => exact ⟨_, _, LN⟩
          case rest =>
            obtain ⟨W6, hW6⟩ : ∃ W, W = wc := ⟨_, rfl⟩
            subst hW6
            obtain ⟨na6, nc6, L6⟩ := hcut
            clear c0 c1 c2 c3 c4 x0 x1 cM HH ws0 ws1 ws2
            have sl := stp_len ls kk nm
            have st := stp_tx ls kk nm b
            have B6 : Hid (k + 1 ≤ 1048576 ∧ (stp ls kk nm).length ≤ k + 1 ∧ vs.length = 2 * k ∧ (tx (stp ls kk nm) b).length ≤ 2097152 + (k + 1) * 1048585 ∧ sz + ((tx ls b).length + 100 * (nms ls).length) ≤ 8796093022208) := by
              obtain ⟨a1, a2, a3, a4, a5, a6⟩ := BB.out
              exact ⟨by omega, by omega, a3, by omega, a2⟩
            clear sl st BB
            generalize stp ls kk nm = l6 at *
            have cT := trail_any W6 _ l6 b L6.ch (by have := B6.out.1; have := B6.out.2.1; omega)
            have HL : Hid _ := L6
            have HR := L6.row
            have hBW := L6.bel.size
            have hch := L6.ch
            clear L6
            obtain ⟨tE, vE, hE⟩ := hch.iface
            subst hE
            go_upto_region 12 with fail
            go_wp2_with (first
              | (go_at_call 15; (with_reducible refine cT.mono ?_); rintro e w7 ⟨ta, tn, tc, rfl, s7, b7⟩; have cT7 := trail_any w7 _ l6 b (Ch.below b7 (Nat.le_refl _) hch) (by have := B6.out.1; have := B6.out.2.1; omega))
              | (go_at_call 15; (with_reducible refine cT7.mono ?_); rintro e w8 ⟨ta2, tn2, tc2, rfl, s8, b8⟩; have bA := box_below w8 (.cells #[.slice ta tn tc, .slice ta2 tn2 tc2] 27); have nA := new_blk w8 (.cells #[.slice ta tn tc, .slice ta2 tn2 tc2] 27); have RA := own_below (own_below (own_below HR b7) b8) bA; have hBA : w.heap.size ≤ (w8.alloc (.cells #[.slice ta tn tc, .slice ta2 tn2 tc2] 27)).heap.size := Nat.le_trans hBW (Nat.le_trans b7.size (Nat.le_trans b8.size bA.size)))
              | (at_builtin; refine wpList_app2 rfl _ _ rfl w.heap.size _ vs (.slice ta tn tc) (.slice ta2 tn2 tc2) w8.heap.size rfl RA rfl (cell_of nA rfl) (cell_of nA rfl) rfl rfl (by have := B6.out.1; have := B6.out.2.2.1; omega) hBA ?_; intro v9 w9 R9 G9 hv9; obtain ⟨xa, xn, xc, rfl⟩ := hv9))
            go_roundg (N - (k + 1))
            case measure => omega
            case rel => exact ⟨k + 1, sz + ((tx ls b).length + 100 * (nms ls).length), by omega, rfl, by go_num, (by have h1 := B6.out.1; refine congrArg (Value.int .i64) ?_; unfold wrap64; omega), Lf.next HL.out B6.out.2.1 B6.out.2.2.1 B6.out.2.2.2.1 B6.out.2.2.2.2 B6.out.1 b7 s7 b8 s8 bA R9 G9⟩
        · have t1 : decide ((k : Int) < (N : Int)) = true := by simp [hlt]
          have t2' : ¬ (sz : Int) < 65536 := by omega
          have t2 : decide ((sz : Int) < 65536) = false := by simp [t2']
          clear hz hS
          go_wp2
          go_meet
          case rel => exact hL.done (by have := HM.out; omega)
      · obtain rfl : k = N := by omega
        have t1 : decide ((k : Int) < (k : Int)) = false := by simp
        clear hlt hS
        go_wp2
        go_meet
        case rel => exact hL.done HM.out
  case rest =>
  clear L0
  obtain ⟨W1, hW1⟩ : ∃ W, W = wc := ⟨_, rfl⟩
  subst hW1
  obtain ⟨ls, na, nc, vs, lo, lc, rfl, hF, hvl, hll, htx⟩ := hcut
  have BB : Hid (vs.length ≤ 2097152 ∧ ls.length ≤ 1048577 ∧ (tx ls b).length ≤ 140737488355328) := ⟨hvl, hll, htx⟩
  clear hvl hll htx
  have F0 : Fq w q b _ ls na nc (.slice lo vs.length lc) vs vs (P2 0 0) W1 := hF.imp fun i v l hi hs hp => ⟨hp, fun h => by omega, fun _ j x hj => by omega⟩
  clear hF
  go_upto_block 2 with fail
  go_cut [13, 14] from 66 to 89 (fun s13 s14 V => Fq w q b u8 ls na nc (.slice lo vs.length lc) vs vs (P2 vs.length 0) V)
  case first =>
    go_wp2_with fail
    go_loopg [13] vs.length (fun g s13 wr => ∃ I : Nat, I ≤ vs.length ∧ g = vs.length - I ∧ s13 = .int .i64 (I : Nat) ∧ Fq w q b u8 ls na nc (.slice lo vs.length lc) vs vs (P2 I 0) wr)
    case atStart => exact ⟨0, Nat.zero_le _, rfl, rfl, F0⟩
    case round =>
      clear F0
      obtain ⟨I, hI, rfl, rfl, hF⟩ := hrel
      by_cases hlt : I < vs.length
      · obtain ⟨v, hv⟩ : ∃ v, vs[I]? = some v := ⟨_, List.getElem?_eq_getElem hlt⟩
        obtain ⟨lg, rfl⟩ := own_lo hF.row hlt
        obtain ⟨ao, nI, cI, rfl, hnI⟩ := hF.val hv
        have HV : Hid (vs[I]? = some (.slice ao nI cI)) := hv
        generalize hn : vs.length = n at *
        have HN2 : Hid (vs.length = n) := hn
        have t1 : decide ((I : Int) < (n : Int)) = true := by simp [hlt]
        have t1' : (I : Int) < (n : Int) := by omega
        clear hn hv
        go_wp2_with fail
        go_loopg [14] nI (fun g s14 wr => ∃ k : Nat, k ≤ nI ∧ g = nI - k ∧ s14 = .int .i64 (k : Nat) ∧ Fq w q b u8 ls na nc (.slice (some ⟨lg, 0, none⟩) n lc) vs vs (P2 I k) wr)
        case atStart => exact ⟨0, Nat.zero_le _, rfl, rfl, hF⟩
        case round =>
          clear hF
          obtain ⟨k, hk, rfl, rfl, hF⟩ := hrel
          have hF' : Fq w q b u8 ls na nc (.slice (some ⟨lg, 0, none⟩) vs.length lc) vs vs (P2 I k) wr := by rw [HN2.out]; exact hF
          have z1 : wr.cell? ⟨lg, I, none⟩ = some (.slice ao nI cI) := hF'.cell HV.out
          by_cases hkl : k < nI
          · have t2 : decide ((k : Int) < (nI : Int)) = true := by simp [hkl]
            have t2' : (k : Int) < (nI : Int) := by omega
            obtain ⟨l, hs, h1, h2, h3⟩ := hF.rows.own I _ HV.out
            obtain ⟨g, hgg, hgc⟩ := st_cells' hs hkl
            subst hgg
            have hFd := hF'.below (Below.refl _ _).drew
            have cT := itoa_any (I : Int) wr.drew (by have := HN2.out; have := BB.out.1; omega) (T.below hFd.bel)
            have qs : ¬ 9223372036854775807 < 5 + (Lib.itoa (I : Int)).length := by have := itoa_le (I : Int) (by have := HN2.out; have := BB.out.1; omega); omega
            have HH : Hid (Fq w q b u8 ls na nc (.slice (some ⟨lg, 0, none⟩) vs.length lc) vs vs (P2 I k) wr.drew) := hFd
            have HS : Hid (St wr.drew w.heap.size (.slice (some ⟨g, 0, none⟩) nI cI) l) := hs
            have HK : Hid (k < nI) := hkl
            clear hF hF' hFd hs h1 h2 h3 hgc
            go_upto_region 19 with fail
            go_region_with (go_at_call 16; (with_reducible refine cT.mono ?_); rintro e w2 ⟨rfl, b2⟩; have F2 := HH.out.below b2; have y1 : w2.cell? ⟨lg, I, none⟩ = some (.slice (some ⟨g, 0, none⟩) nI cI) := F2.cell HV.out; have yf : ∀ j, w2.frozen? ⟨g, j, none⟩ = false := fun j => st_frozen (own_below HS.out b2) j; obtain ⟨yv, yc⟩ := st_cell (own_below HS.out b2) HK.out; have FM := F2.mark HV.out HK.out; rw [HN2.out] at FM)
            all_goals
              go_wp2
              go_roundg (nI - (k + 1))
              case measure => omega
              case rel => exact ⟨k + 1, by omega, rfl, (by go_num), by first | exact FM | (rw [mk_eq]; exact FM) | (trace_state; fail)⟩
          · obtain rfl : k = nI := by omega
            have t2 : decide ((k : Int) < (k : Int)) = false := by simp
            clear hkl
            have FM := hF'.marked HV.out
            rw [HN2.out] at FM
            clear hF hF'
            go_wp2
            go_roundg (n - (I + 1))
            case measure => omega
            case rel => exact ⟨I + 1, by omega, rfl, (by have h1 := HN2.out; have := BB.out.1; refine congrArg (Value.int .i64) ?_; unfold wrap64; omega), FM⟩
      · obtain rfl : I = vs.length := by omega
        have t1 : decide ((vs.length : Int) < (vs.length : Int)) = false := by simp
        clear hlt
        go_wp2
        go_meet
        case rel => exact hF
  case rest =>
  clear F0
  obtain ⟨W2, hW2⟩ : ∃ W, W = wc := ⟨_, rfl⟩
  subst hW2
  have F3 : Fq w q b u8 ls na nc (.slice lo vs.length lc) vs vs P3 W2 := hcut.imp fun i v l hi hs hp => ⟨by have := hp.1; omega, hp.2.1 (List.getElem?_eq_some_iff.1 hi).1⟩
  have HV : Hid (∀ (i : Nat) (v : Value), vs[i]? = some v → ∃ a n c, v = .slice a n c ∧ n ≤ 1048577) := fun i v hi => hcut.val hi
  clear hcut
  generalize hn : vs.length = n at *
  have HN2 : Hid (vs.length = n) := hn
  have hn2 : n ≤ 2097152 := BB.out.1
  clear hn
  have hmk := run_make_row' (P := Tryd.prog) 44 27 (.slice none 0 0) 24 Tryd.underlying44 (by kernel_rfl) rfl .i64 .i64 n (by omega) (by omega)
  have H0 := Hq.start (n := n) F3 (by unfold maxLen; omega) HN2.out
  clear F3
  go_upto_block 6 with fail
  generalize W2.heap.size = gg at *
  generalize W2.alloc (.cells (madeCells #[.slice none 0 0] n) 27) = W3 at *
  clear hmk
  go_cut [16] from 93 to 142 (fun s16 V => Hq w q b u8 ls na nc (.slice lo n lc) vs gg n n V)
  case first =>
    go_wp2_with fail
    go_loopg [16] n (fun g s16 wr => ∃ I : Nat, I ≤ n ∧ g = n - I ∧ s16 = .int .i64 (I : Nat) ∧ Hq w q b u8 ls na nc (.slice lo n lc) vs gg n I wr)
    case atStart => exact ⟨0, Nat.zero_le _, rfl, rfl, H0⟩
    case round =>
      clear H0
      obtain ⟨I, hI, rfl, rfl, hH⟩ := hrel
      by_cases hlt : I < n
      · obtain ⟨v, hv⟩ : ∃ v, vs[I]? = some v := ⟨_, List.getElem?_eq_getElem (by rw [HN2.out]; exact hlt)⟩
        obtain ⟨a0, n0, c0, rfl, hn0⟩ := HV.out I v hv
        obtain ⟨lg, rfl⟩ := hH.lo HN2.out hlt
        have HI : Hid (vs[I]? = some (.slice a0 n0 c0)) := hv
        obtain ⟨⟨v0, y0⟩, yf, hbw⟩ := hH.fz hlt
        have y1 : wr.cell? ⟨lg, I, none⟩ = some (.slice a0 n0 c0) := hH.lcell HN2.out hv
        have H1 := hH.inner hlt hv
        have t1 : decide ((I : Int) < (n : Int)) = true := by simp [hlt]
        have t1' : (I : Int) < (n : Int) := by omega
        clear hv hH
        go_wp2_with fail
        go_loopg [130] (lim n0 - n0) (fun g s130 wr => ∃ k : Nat, g = lim n0 - k ∧ Iq w q b u8 ls na nc (.slice (some ⟨lg, 0, none⟩) n lc) vs gg n I n0 a0 k c0 wr)
        case atStart => exact ⟨n0, rfl, H1⟩
        case round =>
          clear H1 y0 yf y1 hbw
          obtain ⟨k, rfl, hJ⟩ := hrel
          have z1 := hJ.cell
          have z2 := hJ.lcell HN2.out HI.out
          have t1 : decide ((I : Int) < (n : Int)) = true := by simp [hlt]
          have t1' : (I : Int) < (n : Int) := by omega
          have ws : IntKind.i64.wrap ((n0 : Int) + 3000) = (n0 : Int) + 3000 := wrapIn _ (by omega)
          by_cases hkc : k < c0
          · have t2' : (k : Int) < (c0 : Int) := by omega
            have t2 : decide ((k : Int) < (c0 : Int)) = true := by simp [hkc]
            by_cases hk3 : k < n0 + 3000
            · have t3' : (k : Int) < (n0 : Int) + 3000 := by omega
              have t3 : decide ((k : Int) < (n0 : Int) + 3000) = true := by simp [t3']
              have HK : Hid (k < n0 + 3000 ∧ n0 ≤ 1048577) := ⟨hk3, hn0⟩
              clear hk3 hn0
              go_upto_region 25 with fail
              go_cut [130] from 106 to 130 (fun s130 V => s130 = .bool true ∧ Iq w q b u8 ls na nc (.slice (some ⟨lg, 0, none⟩) n lc) vs gg n I n0 a0 k c0 V)
              case first =>
                go_quiet (fail)
                go_wp2
                go_meet
                case rel => exact ⟨rfl, hJ.below (drewN_belowS _ _)⟩
              case rest =>
              clear hJ z1 z2
              obtain ⟨W5, hW5⟩ : ∃ W, W = wc := ⟨_, rfl⟩
              subst hW5
              obtain ⟨rfl, hJ⟩ := hcut
              have hJd := hJ.below (Below.refl _ _).drew
              obtain ⟨g, l, rfl, hs, hl, hx⟩ := hJd.row hkc
              have cT := itoa_any (I : Int) W5.drew (by omega) (T.below hJd.fz.2)
              have qs : ¬ 9223372036854775807 < 5 + (Lib.itoa (I : Int)).length := by have := itoa_le (I : Int) (by omega); omega
              have z1 := hJ.cell
              have HJ : Hid (Iq w q b u8 ls na nc (.slice (some ⟨lg, 0, none⟩) n lc) vs gg n I n0 (some ⟨g, 0, none⟩) k c0 W5.drew) := hJd
              have HS : Hid (St W5.drew w.heap.size (.slice (some ⟨g, 0, none⟩) k c0) l) := hs
              have HX : Hid (l.length = k ∧ ∀ x ∈ l, x = mrk I) := ⟨hl, hx⟩
              have HKC : Hid (k < c0) := hkc
              clear hJ hJd hs hl hx hkc
              go_upto_region 26 with fail
              go_region_law (first
                | (go_simp; go_at_call 16; (with_reducible refine cT.mono ?_); rintro e w6 ⟨rfl, b6⟩; have J6 := HJ.out.below b6; have y6 := J6.cell; have nA := new_blk w6 (.cells #[.string ((⟨#[109, 97, 114, 107, 32]⟩ : ByteArray) ++ ⟨(Lib.itoa (I : Int)).toArray⟩)] 9); have bA := box_below w6 (.cells #[.string ((⟨#[109, 97, 114, 107, 32]⟩ : ByteArray) ++ ⟨(Lib.itoa (I : Int)).toArray⟩)] 9); have JA := J6.below bA; have yA := JA.cell; have SA := own_below (own_below HS.out b6) bA; have cA : (w6.alloc (.cells #[.string ((⟨#[109, 97, 114, 107, 32]⟩ : ByteArray) ++ ⟨(Lib.itoa (I : Int)).toArray⟩)] 9)).cell? ⟨w6.heap.size, 0, none⟩ = some (.string ⟨(mrk I).toArray⟩) := by rw [← mk_eq]; exact cell_of nA rfl)
                | (refine step_spare rfl (.tmp 136) (.tmp 140) rfl w.heap.size g k c0 l (mrk I) (by simp [Act.eval]) SA w6.heap.size (by simp [Act.eval]) cA (by have := HKC.out; omega) ?_; intro w9 S9 G9; have AP := JA.apped SA G9; obtain ⟨⟨v9, y9⟩, f9⟩ := AP; have J9 := JA.next HK.out.2 HK.out.1 HX.out.1 HX.out.2 G9 S9))
              all_goals
                go_wp2
                go_roundg (lim n0 - (k + 1))
                case measure => have := HK.out.1; unfold lim; omega
                case rel => exact ⟨k + 1, rfl, J9⟩
            · have t3' : ¬ (k : Int) < (n0 : Int) + 3000 := by omega
              have t3 : decide ((k : Int) < (n0 : Int) + 3000) = false := by simp [t3']
              clear hk3 hn0
              go_upto_region 25 with fail
              go_quiet (fail)
              go_wp2
              go_roundg (n - (I + 1))
              case measure => omega
              case rel => exact ⟨I + 1, by omega, rfl, (by go_num), (hJ.below (drewN_belowS _ _)).done⟩
          · have t2' : ¬ (k : Int) < (c0 : Int) := by omega
            have t2 : decide ((k : Int) < (c0 : Int)) = false := by simp [t2']
            clear hkc hn0
            go_upto_region 25 with fail
            go_quiet (fail)
            go_wp2
            go_roundg (n - (I + 1))
            case measure => omega
            case rel => exact ⟨I + 1, by omega, rfl, (by go_num), (hJ.below (drewN_belowS _ _)).done⟩
      · obtain rfl : I = n := by omega
        have t1 : decide ((I : Int) < (I : Int)) = false := by simp
        clear hlt
        go_wp2
        go_meet
        case rel => exact hH
  case rest =>
  clear H0
  obtain ⟨W4, hW4⟩ : ∃ W, W = wc := ⟨_, rfl⟩
  subst hW4
  obtain ⟨us, G0, hul⟩ := hcut.all
  have HU : Hid (us.length = n) := hul
  clear hcut hul
  go_upto_block 10 with fail
  go_cut [17, 18] from 143 to 168 (fun s17 s18 V => Gq w q b u8 ls na nc (.slice lo n lc) vs us us gg n V)
  case first =>
    go_wp2_with fail
    go_loopg [17] n (fun g s17 wr => ∃ I : Nat, I ≤ n ∧ g = n - I ∧ s17 = .int .i64 (I : Nat) ∧ Gq w q b u8 ls na nc (.slice lo n lc) vs us us gg n wr)
    case atStart => exact ⟨0, Nat.zero_le _, rfl, rfl, G0⟩
    case round =>
      clear G0
      obtain ⟨I, hI, rfl, rfl, hG⟩ := hrel
      by_cases hlt : I < n
      · obtain ⟨v, hv⟩ : ∃ v, us[I]? = some v := ⟨_, List.getElem?_eq_getElem (by rw [HU.out]; exact hlt)⟩
        obtain ⟨a, m, c, rfl, hm, _⟩ := hG.val hv
        have HI : Hid (us[I]? = some (.slice a m c)) := hv
        have t1 : decide ((I : Int) < (n : Int)) = true := by simp [hlt]
        have t1' : (I : Int) < (n : Int) := by omega
        clear hv
        go_wp2_with fail
        go_loopg [18] m (fun g s18 wr => ∃ k : Nat, k ≤ m ∧ g = m - k ∧ s18 = .int .i64 (k : Nat) ∧ Gq w q b u8 ls na nc (.slice lo n lc) vs us us gg n wr)
        case atStart => exact ⟨0, Nat.zero_le _, rfl, rfl, hG⟩
        case round =>
          clear hG
          obtain ⟨k, hk, rfl, rfl, hG⟩ := hrel
          have z1 := hG.cellAt HI.out
          by_cases hkl : k < m
          · have t2 : decide ((k : Int) < (m : Int)) = true := by simp [hkl]
            have t2' : (k : Int) < (m : Int) := by omega
            have hGd := hG.below (Below.refl _ _).drew
            obtain ⟨a', m', c', e', _, hc⟩ := hGd.val HI.out
            injection e' with e1 e2 e3
            subst e1 e2 e3
            obtain ⟨g, rfl, hgc⟩ := hc k hkl
            rw [← mk_eq] at hgc
            have z2 : wr.cell? ⟨g, k, none⟩ = some (.string ((⟨#[109, 97, 114, 107, 32]⟩ : ByteArray) ++ ⟨(Lib.itoa (I : Int)).toArray⟩)) := hgc
            have cT := itoa_any (I : Int) wr.drew (by omega) (T.below hGd.fq.bel)
            have qs : ¬ 9223372036854775807 < 5 + (Lib.itoa (I : Int)).length := by have := itoa_le (I : Int) (by omega); omega
            have HG : Hid (Gq w q b u8 ls na nc (.slice lo n lc) vs us us gg n wr.drew) := hGd
            have HC : Hid (wr.drew.cell? ⟨g, k, none⟩ = some (.string ((⟨#[109, 97, 114, 107, 32]⟩ : ByteArray) ++ ⟨(Lib.itoa (I : Int)).toArray⟩))) := hgc
            clear hG hGd hc hgc
            go_upto_region 33 with fail
            go_region_with (go_at_call 16; (with_reducible refine cT.mono ?_); rintro e w2 ⟨rfl, b2⟩; have G2 := HG.out.below b2; have y1 := G2.cellAt HI.out; have y2 : w2.cell? ⟨g, k, none⟩ = some (.string ((⟨#[109, 97, 114, 107, 32]⟩ : ByteArray) ++ ⟨(Lib.itoa (I : Int)).toArray⟩)) := cell_below HC.out b2)
            all_goals
              go_wp2
              go_roundg (m - (k + 1))
              case measure => omega
              case rel => exact ⟨k + 1, by omega, rfl, (by go_num), G2⟩
          · obtain rfl : k = m := by omega
            have t2 : decide ((k : Int) < (k : Int)) = false := by simp
            clear hkl
            go_wp2
            go_roundg (n - (I + 1))
            case measure => omega
            case rel => exact ⟨I + 1, by omega, rfl, (by go_num), hG⟩
      · obtain rfl : I = n := by omega
        have t1 : decide ((I : Int) < (I : Int)) = false := by simp
        clear hlt
        go_wp2
        go_meet
        case rel => exact hG
  case rest =>
  clear G0
  obtain ⟨W5, hW5⟩ : ∃ W, W = wc := ⟨_, rfl⟩
  subst hW5
  have hF := hcut.fq
  have hbw := hF.bel
  have cF := told_live W5 w.heap.size u8 na nc ls b hF.ch hF.nm (by have := BB.out.2.1; omega) BB.out.2.2 (T.below hF.bel)
  have c0 : W5.cell? ⟨q, 0, none⟩ = some (.bool true) := cell_of hF.box rfl
  have c1 : W5.cell? ⟨q, 1, none⟩ = some (.int .i64 (cdE b)) := cell_of hF.box rfl
  have c2 : W5.cell? ⟨q, 2, none⟩ = some (.int .i64 (plc b)) := cell_of hF.box rfl
  have c3 : W5.cell? ⟨q, 3, none⟩ = some (.slice na (nms ls).length nc) := cell_of hF.box rfl
  have c4 : W5.cell? ⟨q, 4, none⟩ = some (.string ⟨(tx ls b).toArray⟩) := cell_of hF.box rfl
  clear hF hcut
  go_wp2_with (go_at_call 10; (with_reducible refine cF.mono ?_); rintro e w7 ⟨rfl, b7⟩)
  go_ret
  exact ⟨rfl, hbw.trans (b7.mono hbw.size)⟩

theorem fresh_any (c p : Int) (so : Option Addr) (N cap : Nat) (xs : List (Int × List UInt8)) (w : World) (h0 : -9223372036854775808 ≤ c ∧ c ≤ 9223372036854775807) (h1 : -9223372036854775808 ≤ p ∧ p ≤ 9223372036854775807) (T : Tb w) (hS : Sp w so N xs) (hN : N ≤ 1048576) (hX : ∀ x ∈ xs, x.2.length ≤ 1048576) :
    Calls Tryd.prog 7 #[.int .i64 c, .int .i64 p, .slice so N cap] w fun r w' => r = .returned (.bool true) ∧ Below w.heap.size w w' := by
  by_cases hc : c = 0
  · have hb : Bg 1 17 p [] = some ⟨1, 17, p, []⟩ := by simp [Bg]
    exact fresh_go c 17 p so N cap xs w _ (.inl ⟨hc, rfl⟩) hb (bg_small hb (by omega) h1 (by simp)) (by omega) h1 T hS hN hX
  · have hb : Bg 1 c p [] = some ⟨1, c, p, []⟩ := by simp [Bg, hc]
    exact fresh_go c c p so N cap xs w _ (.inr ⟨hc, rfl⟩) hb (bg_small hb h0 h1 (by simp)) h0 h1 T hS hN hX
end Go.Proofs.YtfbnnofmplakjaaDoor
