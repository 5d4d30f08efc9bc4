
/- What layer 2's book takes. -/

import Derived.Test.YtdeglhifemmknaaLB

namespace Go.Proofs.Ytdeglhifemmknaa

open Go.RowKit

set_option linter.unusedVariables false

theorem fullQ_ex (bb : Nat) (x n : Int) (w : World) (hc : w.cell? ⟨bb, 1, none⟩ = some (.int .i64 x)) (hz : w.frozen? ⟨bb, 1, none⟩ = false) :
    Calls Try.prog 10 #[.pointer (some ⟨bb, 0, none⟩), .int .i64 n] w fun e w' => ∃ (bv : Bool) (y : Int), e = .returned (.bool bv) ∧ Hid (w' = w.setCell ⟨bb, 1, none⟩ (.int .i64 y)) :=
  (fullQ_any bb x n _ w hc hz rfl).mono fun e w' h => ⟨_, _, h.1, h.2⟩

/-- Lists in one list: each in a row of its own. -/
structure Lsq (W : World) (R : Nat → Prop) (lo : Option Addr) (n : Nat) (qa : Nat → Option Addr) (qn qc : Nat → Nat) : Prop where
  cells : 0 < n → ∃ b off, lo = some ⟨b, off, none⟩ ∧ b < W.heap.size ∧ ¬ R b ∧ ∀ i, i < n → W.cell? ⟨b, off + i, none⟩ = some (.slice (qa i) (qn i) (qc i))
  rows : ∀ i, i < n → ∃ z : List Int, W.ownsRow 0 3 1 (.slice (qa i) (qn i) (qc i)) (qn i) (z.map (Value.int .i64)) ∧ z.length = qn i ∧ qn i * 8 ≤ 140737488351232
  inR : ∀ i g, i < n → (Value.slice (qa i) (qn i) (qc i)).ownBlock = some g → R g
  apart : ∀ i j g, i < n → j < n → (Value.slice (qa i) (qn i) (qc i)).ownBlock = some g → (Value.slice (qa j) (qn j) (qc j)).ownBlock = some g → i = j
  small : n ≤ 1000000000000

theorem step_pushQ {t e : TypeId} (hund : Try.prog.underlying t = some (.slice e)) (hinfo : (Try.prog.info? e).map (fun i => (i.zero, i.size, i.bytes)) = some (some (.slice none 0 0), 1, 24)) {ops : Array Oper} {o : Oper} {a : Act} {w : World} {K : Act → World → Prop} {Q : Exit → Act → World → Prop} {E : Prop}
    (hg : o.guard = none) (s x : Operand) (hop : o.op = Op.call { callee := Callee.builtin Builtin.append, args := #[s, x], argTypes := #[t, t] })
    (v : Value) (n : Nat) (xs : List Value) (hs : a.eval s = v) (hown : w.ownsRow 0 e 1 v n xs) (g : Nat) (hx : a.eval x = .slice (some ⟨g, 0, none⟩) 1 1) (y : Value) (hc : w.cell? ⟨g, 0, none⟩ = some y) (hy : y.oneCell' = true) (hn : n ≤ 2000000000000)
    (hK : ∀ v' w', w'.ownsRow 0 e 1 v' (n + 1) (xs ++ [y]) → w.grownBy w' v.ownBlock → (v'.ownBlock = v.ownBlock ∨ v'.ownBlock = some w.heap.size) → K (a.put o.dst v') w') :
    if Region.wanted o (yielded ops a.tmps) = true then Oper.wp Try.prog o a w K Q else E := by
  have hw : Region.wanted o (yielded ops a.tmps) = true := by simp [Region.wanted, hg]
  rw [if_pos hw]
  obtain ⟨i0, hi, hz0, hz1, hz2⟩ := info_parts hinfo
  obtain ⟨v', w', hrun, h1, h2, _, h4⟩ := run_append_own_at (P := Try.prog) w 0 t o.type e i0 (.slice none 0 0) 1 24 hund hi hz0 hz1 hz2 rfl (by decide) v n xs hown ⟨g, 0, none⟩ 1 1 [y] rfl
    (fun j u hj => by
      match j, hj with
      | 0, hj => simp at hj; subst hj; simpa [Addr.add] using hc) (fun u hu => by simp at hu; subst hu; exact hy) (by unfold maxLen; omega) (by omega) (Nat.zero_le _)
  unfold Oper.wp
  simp [execOp, hop, resolve, invoke, builtin, hs, hx, hrun, Result.andThen]
  exact hK _ _ h1 h2 h4
def lenV : Value → Nat
  | .slice _ k _ => k
  | _ => 0
def SS (w : World) (S : Nat → Prop) (qa : Nat → Option Addr) (qn qc : Nat → Nat) (i g : Nat) : Prop := S g ∨ w.heap.size ≤ g ∨ ∃ j, j < i ∧ (Value.slice (qa j) (qn j) (qc j)).ownBlock = some g
theorem SS.up {w : World} {S : Nat → Prop} {qa : Nat → Option Addr} {qn qc : Nat → Nat} {i g : Nat} (h : SS w S qa qn qc i g) : SS w S qa qn qc (i + 1) g := h.imp id (fun hg => hg.imp id (fun ⟨j, hj, e⟩ => ⟨j, by omega, e⟩))
/-- Between two lists that are taken. -/
structure Tq (w V : World) (S : Nat → Prop) (bb m i : Nat) (qa : Nat → Option Addr) (qn qc : Nat → Nat) (so' : Option Addr) (m' sc' : Nat) (sz' : Int) (vs' : List Value) : Prop where
  bq : Bq V (SS w S qa qn qc i) bb so' m' sc' sz' vs'
  lo : m ≤ m'
  hi : m' ≤ m + i
  chg : Chg (SS w S qa qn qc i) w V
  ent : ∀ e, m ≤ e → e < m' → ∃ j, j < i ∧ vs'[e]? = some (.slice (qa j) (qn j) (qc j))
section
variable {w V V' : World} {S R : Nat → Prop} {bb m i n : Nat} {qa : Nat → Option Addr} {qn qc : Nat → Nat} {lo so' : Option Addr} {m' sc' : Nat} {sz' : Int} {vs' : List Value}

theorem Tq.below (h : Tq w V S bb m i qa qn qc so' m' sc' sz' vs') (k : Below V.heap.size V V') : Tq w V' S bb m i qa qn qc so' m' sc' sz' vs' :=
  ⟨h.bq.below k, h.lo, h.hi, h.chg.trans (Chg.of_below k (Nat.le_refl _) _), h.ent⟩
/-- It isn't taken: too much is kept. -/
theorem Tq.skip (h : Tq w V S bb m i qa qn qc so' m' sc' sz' vs') (hb : S bb) (y : Int) : Tq w (V.setCell ⟨bb, 1, none⟩ (.int .i64 y)) S bb m i qa qn qc so' m' sc' y vs' :=
  ⟨(h.bq.much y).1, h.lo, h.hi, h.chg.trans ((h.bq.much y).2.mono fun g _ e => .inl (e ▸ hb)), h.ent⟩
theorem Tq.next (h : Tq w V S bb m i qa qn qc so' m' sc' sz' vs') : Tq w V S bb m (i + 1) qa qn qc so' m' sc' sz' vs' :=
  ⟨h.bq.mono fun g hg => hg.up, h.lo, by have := h.hi; omega, h.chg.mono fun g _ hg => hg.up, fun e h1 h2 => by obtain ⟨j, hj, e⟩ := h.ent e h1 h2; exact ⟨j, by omega, e⟩⟩
theorem Tq.row (h : Tq w V S bb m i qa qn qc so' m' sc' sz' vs') (hl : Lsq w R lo n qa qn qc) (hi : i < n) (hRS : ∀ g, R g → ¬ S g) : (∃ z : List Int, V.ownsRow 0 3 1 (.slice (qa i) (qn i) (qc i)) (qn i) (z.map (Value.int .i64)) ∧ z.length = qn i) ∧ ∀ g, (Value.slice (qa i) (qn i) (qc i)).ownBlock = some g → ¬ SS w S qa qn qc i g := by
  obtain ⟨z, h1, h2, h3⟩ := hl.rows i hi
  have no : ∀ g, (Value.slice (qa i) (qn i) (qc i)).ownBlock = some g → ¬ SS w S qa qn qc i g := fun g hg hh => by
    rcases hh with hh | hh | ⟨j, hj, e⟩
    · exact hRS g (hl.inR i g hi hg) hh
    · have := (h1.lt g hg).2; omega
    · have := hl.apart i j g hi (by omega) hg e; omega
  exact ⟨⟨z, h.chg.own h1 fun g hg hh => no g hg hh, h2⟩, no⟩
theorem Tq.cell (h : Tq w V S bb m i qa qn qc so' m' sc' sz' vs') (hl : Lsq w R lo n qa qn qc) (hi : i < n) {b off : Nat} (e : lo = some ⟨b, off, none⟩) (hb : b < w.heap.size) (hbS : ¬ S b) (hbR : ¬ R b) (j : Nat) : V.cell? ⟨b, off + j, none⟩ = w.cell? ⟨b, off + j, none⟩ :=
  World.cell?_of_block (a := ⟨b, off + j, none⟩) (h.chg.block b hb fun hh => hh.elim hbS (fun hh => hh.elim (by omega) (fun ⟨j, hj, e⟩ => hbR (hl.inR j b (by omega) e))))
end

set_option maxRecDepth 20000 in
set_option maxHeartbeats 16000000 in
theorem takeQ_any (bb : Nat) (so : Option Addr) (m sc : Nat) (sz : Int) (vs : List Value) (S R : Nat → Prop) (lo : Option Addr) (n lc : Nat) (qa : Nat → Option Addr) (qn qc : Nat → Nat) (w : World) (h : Bq w S bb so m sc sz vs) (hl : Lsq w R lo n qa qn qc) (hRS : ∀ g, R g → ¬ S g) (hbS : ∀ b off, lo = some ⟨b, off, none⟩ → ¬ S b) (hm : m ≤ 1000000000000) :
    Calls Try.prog 8 #[.pointer (some ⟨bb, 0, none⟩), .slice lo n lc] w fun e w' => e = .returned (.tuple #[]) ∧ (∃ so' m' sc' sz' vs', Bq w' (fun g => S g ∨ w.heap.size ≤ g ∨ R g) bb so' m' sc' sz' vs' ∧ m' ≤ m + n) ∧ Chg (fun g => S g ∨ R g) w w' := by
  have b0 := h.c0
  have HSB : Hid (S bb) := h.fb
  have T0 : Tq w w S bb m 0 qa qn qc so m sc sz vs := ⟨h.mono fun g hg => .inl hg, Nat.le_refl _, Nat.le_refl _, Chg.refl _ _, fun e h1 h2 => by omega⟩
  have HL : Hid (Lsq w R lo n qa qn qc) := hl
  have HRS : Hid (∀ g, R g → ¬ S g) := hRS
  have HBS : Hid (∀ b off, lo = some ⟨b, off, none⟩ → ¬ S b) := hbS
  have HN : Hid (n ≤ 1000000000000) := hl.small
  clear h hl hRS hbS
  go_enter Try.func8, Try.ntmps8
  go_wp2_with fail
  go_loopw [5] (fun i V => ∃ j : Nat, j ≤ n ∧ i = .int .i64 (j : Nat) ∧ ∃ so' m' sc' sz' vs', Tq w V S bb m j qa qn qc so' m' sc' sz' vs') (fun i _ => n - (intOf i).toNat)
  case atStart => exact ⟨0, Nat.zero_le _, rfl, _, _, _, _, _, T0⟩
  case round =>
    obtain ⟨i, hi, rfl, so', m', sc', sz', vs', TT⟩ := hrel
    clear T0 b0
    have hnn : n ≤ 1000000000000 := HN.out
    by_cases hlt : i < n
    · obtain ⟨b, off, rfl, hbw, hbR, hcs⟩ := HL.out.cells (by omega)
      have TD := TT.below ((Below.refl wr.heap.size wr).drew)
      have hbs := HBS.out b off rfl
      have cb : wr.drew.cell? ⟨b, off + i, none⟩ = some (.slice (qa i) (qn i) (qc i)) := (TD.cell HL.out hlt rfl hbw hbs hbR i).trans (hcs i hlt)
      obtain ⟨z0, o0, l0, r0⟩ := HL.out.rows i hlt
      have c1 := TD.bq.c1
      have f1 := TD.bq.f1
      have bne : b ≠ bb := fun e => hbs (e ▸ HSB.out)
      have HBN : Hid (b ≠ bb) := bne
      have HTD : Hid (Tq w wr.drew S bb m i qa qn qc so' m' sc' sz' vs') := TD
      have cR := fun V => roomQ_any (qn i) (qc i) V (by omega)
      have HR0 : Hid (qn i * 8 ≤ 140737488351232) := r0
      have HCS : Hid (b < w.heap.size ∧ ¬ R b ∧ ¬ S b ∧ ∀ i, i < n → w.cell? ⟨b, off + i, none⟩ = some (.slice (qa i) (qn i) (qc i))) := ⟨hbw, hbR, hbs, hcs⟩
      have i0 : (0 : Int) ≤ (i : Int) := by omega
      have i1 : (i : Int) < (n : Int) := by omega
      have HLT : Hid (i < n) := hlt
      clear TT TD hcs o0 l0 z0 bne hbs hbR hbw
      go_upto_region 4 with fail
      go_region_held3 (fun V => V.cell? ⟨b, off + i, none⟩ = some (.slice (qa i) (qn i) (qc i))) (first | assumption | exact cb)
        (first
          | (go_at_call 25; (with_reducible refine (cR _).mono ?_); rintro e V1 ⟨rfl, hV1⟩; rw [hV1]; clear hV1 V1)
          | (go_at_call 10; (with_reducible refine (fullQ_ex bb sz' _ _ c1 f1).mono ?_); rintro e V1 ⟨bv, y, rfl, hV1⟩; have cb1 : V1.cell? ⟨b, off + i, none⟩ = some (.slice (qa i) (qn i) (qc i)) := (by rw [hV1.out, World.cell?_setCell_other _ ⟨bb, 1, none⟩ ⟨b, off + i, none⟩ _ (fun e => HBN.out (by first | exact congrArg Addr.block e | exact (congrArg Addr.block e).symm))]; exact cb)))
      have T1 : Tq w V1 S bb m i qa qn qc so' m' sc' y vs' := (by rw [hV1.out]; exact HTD.out.skip HSB.out y)
      clear hV1 c1 f1 cb cR
      cases bv
      · have HT1 := (show Hid _ from T1)
        have b0 := T1.bq.c0
        obtain ⟨⟨z, oz, lz⟩, nz⟩ := T1.row HL.out hlt HRS.out
        have HNZ := (show Hid _ from nz)
        have F1 : Fil V1 3 (.slice (qa i) (qn i) (qc i)) (qn i) 0 (mQ m') := Fil.start oz lz _
        have wm : IntKind.i64.wrap (-1 - (m' : Int)) = mQ m' := by have := T1.hi; have := HN.out; rw [IntKind.wrap_i64]; unfold mQ; omega
        have wm2 : wrap64 (-1 - (m' : Int)) = mQ m' := by have := T1.hi; have := HN.out; unfold mQ wrap64; omega
        have HMM : Hid (m' ≤ m + i ∧ m ≤ 1000000000000) := ⟨T1.hi, hm⟩
        clear T1 oz nz
        go_upto_region 6 with fail
        clear b0
        go_wp2
        go_loopw [7] (fun s V => ∃ j : Nat, j ≤ qn i ∧ s = .int .i64 (j : Nat) ∧ Fil V 3 (.slice (qa i) (qn i) (qc i)) (qn i) j (mQ m') ∧ Chg (fun g => (Value.slice (qa i) (qn i) (qc i)).ownBlock = some g) V1 V) (fun s _ => qn i - (intOf s).toNat)
        case atStart => exact ⟨0, Nat.zero_le _, rfl, F1, Chg.refl _ _⟩
        case round =>
          obtain ⟨j, hj, rfl, hF, hC⟩ := hrel
          clear F1
          have cb2 : wr.cell? ⟨b, off + i, none⟩ = some (.slice (qa i) (qn i) (qc i)) := (World.cell?_of_block (a := ⟨b, off + i, none⟩) (hC.block b (World.block_lt_of_cell? V1 _ cb1) (fun e => HCS.out.2.1 (HL.out.inR i b hlt e)))).trans cb1
          have HCB1 : Hid (V1.cell? ⟨b, off + i, none⟩ = some (.slice (qa i) (qn i) (qc i))) := cb1
          clear cb1
          by_cases hjl : j < qn i
          · obtain ⟨g, hg, ⟨x, cx⟩, fx⟩ := hF.lo hjl
            have HG : Hid (qa i = some ⟨g, 0, none⟩) := hg
            rw [hg] at hF cb2
            obtain ⟨hF1, hC1⟩ := hF.put hjl
            have hC2 : Chg (fun g' => (Value.slice (qa i) (qn i) (qc i)).ownBlock = some g') V1 (wr.setCell ⟨g, j, none⟩ (.int .i64 (mQ m'))) := hC.trans (hC1.mono fun k _ e => show (Value.slice (qa i) (qn i) (qc i)).ownBlock = some k by rw [HG.out, e]; rfl)
            have hF2 : Fil (wr.setCell ⟨g, j, none⟩ (.int .i64 (mQ m'))) 3 (.slice (qa i) (qn i) (qc i)) (qn i) (j + 1) (mQ m') := by rw [HG.out]; exact hF1
            have HH := (show Hid _ from (⟨hC2, hF2⟩ : _ ∧ _))
            have j0 : (0 : Int) ≤ (j : Int) := by omega
            have j1 : (j : Int) < (qn i : Int) := by omega
            have HR := HR0.out
            clear hF hC hC1 hF1 hC2 hF2 hg
            go_wp2
            go_roundw
            case rel => exact ⟨j + 1, by omega, (by first | go_num | (refine congrArg (Value.int .i64) ?_; unfold wrap64; omega)), HH.out.2, HH.out.1⟩
            case measure => simp [intOf]; omega
          · obtain rfl : j = qn i := by omega
            have j1 : ¬ ((qn i : Int) < (qn i : Int)) := by omega
            have B2 : Bq wr (SS w S qa qn qc i) bb so' m' sc' y vs' := HT1.out.bq.chg hC fun g hg e => HNZ.out g e hg
            have K2 : Chg (SS w S qa qn qc (i + 1)) w wr := (HT1.out.chg.mono fun g _ hg => hg.up).trans (hC.mono fun g _ e => .inr (.inr ⟨i, by omega, e⟩))
            obtain ⟨lx, ox, hlx, hmx⟩ := hF.done
            have bA : Below wr.heap.size wr (wr.alloc (.cells #[(.slice (qa i) (qn i) (qc i))] 28)).drew := (box_belowL wr _).drew
            have nA := allocNewL wr (.cells #[(.slice (qa i) (qn i) (qc i))] 28)
            have HS : wr.drew.cell? ⟨bb, 0, none⟩ = some (.slice so' m' sc') ∧ wr.drew.cell? ⟨b, off + i, none⟩ = some (.slice (qa i) (qn i) (qc i)) := ⟨B2.c0, cb2⟩
            have hBA := B2.below bA
            have HSA : (wr.alloc (.cells #[(.slice (qa i) (qn i) (qc i))] 28)).drew.cell? ⟨bb, 0, none⟩ = some (.slice so' m' sc') ∧ (wr.alloc (.cells #[(.slice (qa i) (qn i) (qc i))] 28)).drew.cell? ⟨b, off + i, none⟩ = some (.slice (qa i) (qn i) (qc i)) := ⟨hBA.c0, (grownL bA).cell cb2 (by simp)⟩
            have cA : (wr.alloc (.cells #[(.slice (qa i) (qn i) (qc i))] 28)).drew.cell? ⟨wr.heap.size, 0, none⟩ = some (.slice (qa i) (qn i) (qc i)) := (cell_of_row _ _ 0 _ 28 (0, 0) nA).trans rfl
            have HB2 := (show Hid _ from B2)
            have HK2 := (show Hid _ from K2)
            have HSZ : Hid (V1.heap.size ≤ wr.heap.size ∧ w.heap.size ≤ V1.heap.size) := ⟨hC.size, HT1.out.chg.size⟩
            clear hF hC B2 K2
            go_upto_region 10 with fail
            clear cb2
            refine wp_region_R (fun V => V.cell? ⟨bb, 0, none⟩ = some (.slice so' m' sc') ∧ V.cell? ⟨b, off + i, none⟩ = some (.slice (qa i) (qn i) (qc i))) (fun i => i != 13) (by kernel_rfl) ?_
            refine wpAnyR_take (i := 0) (v := .pointer (some ⟨bb, 0, none⟩)) rfl (by kernel_rfl) (by kernel_rfl) (by kernel_rfl) (by kernel_rfl) (fun _ _ _ h => h) (Or.inl ⟨by rfl, fun V hV => ?_⟩) ?_ ?_
            · obtain ⟨g0, g1⟩ := hV
              go_simp
            · exact HS
            conv => arg 9; simp [Act.put]
            refine wpAnyR_take (i := 1) (v := .pointer (some ⟨bb, 0, none⟩)) rfl (by kernel_rfl) (by kernel_rfl) (by kernel_rfl) (by kernel_rfl) (fun _ _ _ h => h) (Or.inl ⟨by rfl, fun V hV => ?_⟩) ?_ ?_
            · obtain ⟨g0, g1⟩ := hV
              go_simp
            · exact HS
            conv => arg 9; simp [Act.put]
            refine wpAnyR_take (i := 2) (v := .pointer (some ⟨bb, 0, none⟩)) rfl (by kernel_rfl) (by kernel_rfl) (by kernel_rfl) (by kernel_rfl) (fun _ _ _ h => h) (Or.inl ⟨by rfl, fun V hV => ?_⟩) ?_ ?_
            · obtain ⟨g0, g1⟩ := hV
              go_simp
            · exact HS
            conv => arg 9; simp [Act.put]
            refine wpAnyR_take (i := 3) (v := .pointer (some ⟨bb, 0, none⟩)) rfl (by kernel_rfl) (by kernel_rfl) (by kernel_rfl) (by kernel_rfl) (fun _ _ _ h => h) (Or.inl ⟨by rfl, fun V hV => ?_⟩) ?_ ?_
            · obtain ⟨g0, g1⟩ := hV
              go_simp
            · exact HS
            conv => arg 9; simp [Act.put]
            refine wpAnyR_take (i := 4) (v := .slice so' m' sc') rfl (by kernel_rfl) (by kernel_rfl) (by kernel_rfl) (by kernel_rfl) (fun _ _ _ h => h) (Or.inl ⟨by rfl, fun V hV => ?_⟩) ?_ ?_
            · obtain ⟨g0, g1⟩ := hV
              go_simp
            · exact HS
            conv => arg 9; simp [Act.put]
            refine wpAnyR_take (i := 5) (v := .slice (some ⟨b, off, none⟩) n lc) rfl (by kernel_rfl) (by kernel_rfl) (by kernel_rfl) (by kernel_rfl) (fun _ _ _ h => h) (Or.inl ⟨by rfl, fun V hV => ?_⟩) ?_ ?_
            · obtain ⟨g0, g1⟩ := hV
              go_simp
            · exact HS
            conv => arg 9; simp [Act.put]
            refine wpAnyR_take (i := 6) (v := .int .i64 (i : Int)) rfl (by kernel_rfl) (by kernel_rfl) (by kernel_rfl) (by kernel_rfl) (fun _ _ _ h => h) (Or.inl ⟨by rfl, fun V hV => ?_⟩) ?_ ?_
            · obtain ⟨g0, g1⟩ := hV
              go_simp
            · exact HS
            conv => arg 9; simp [Act.put]
            refine wpAnyR_take (i := 7) (v := .pointer (some ⟨b, off + i, none⟩)) rfl (by kernel_rfl) (by kernel_rfl) (by kernel_rfl) (by kernel_rfl) (fun _ _ _ h => h) (Or.inl ⟨by rfl, fun V hV => ?_⟩) ?_ ?_
            · obtain ⟨g0, g1⟩ := hV
              go_simp
            · exact HS
            conv => arg 9; simp [Act.put]
            refine wpAnyR_take (i := 8) (v := .slice (qa i) (qn i) (qc i)) rfl (by kernel_rfl) (by kernel_rfl) (by kernel_rfl) (by kernel_rfl) (fun _ _ _ h => h) (Or.inl ⟨by rfl, fun V hV => ?_⟩) ?_ ?_
            · obtain ⟨g0, g1⟩ := hV
              go_simp
            · exact HS
            conv => arg 9; simp [Act.put]
            refine wpAnyR_one (i := 9) (by kernel_rfl) rfl (fun K hK => ?_)
            go_simp
            refine hK _ _ ⟨fun _ => HSA, ?_⟩
            clear hK
            conv => arg 9; simp [Act.put]
            refine wpAnyR_one (i := 10) (by kernel_rfl) rfl (fun K hK => ?_)
            refine step_pushQ Try.underlying29 (by kernel_rfl) rfl (.tmp 62) (.tmp 67) rfl (.slice so' m' sc') m' vs' (by simp [Act.eval]) hBA.shp wr.heap.size (by simp [Act.eval]) (.slice (qa i) (qn i) (qc i)) cA rfl (by have := HMM.out.1; have := HMM.out.2; omega) ?_
            intro v9 W9 r9 g9 a9
            obtain ⟨so2, sc2, rfl, hB4, K4⟩ := Bq.push (S' := SS w S qa qn qc (i + 1)) HB2.out ox hmx HNZ.out bA r9 g9 a9 (fun g hg => hg.up) (fun g hg => .inr (.inl (by have := HSZ.out.1; have := HSZ.out.2; omega))) (fun g hg => .inr (.inr ⟨i, by omega, hg⟩))
            have e9 : W9.heap[bb]? = _ := g9.block bb hBA.lt fun e => (hBA.fs bb e.symm).2 rfl
            have e9b : W9.heap[b]? = _ := g9.block b (World.block_lt_of_cell? _ _ HSA.2) fun e => by
              have e1 := (hBA.fs b e.symm).1
              rcases e1 with e1 | e1 | ⟨j, hj, e1⟩
              · exact HCS.out.2.2.1 e1
              · have := HCS.out.1; omega
              · exact HCS.out.2.1 (HL.out.inR j b (by omega) e1)
            have HS9 : W9.cell? ⟨bb, 0, none⟩ = some (.slice so' m' sc') ∧ W9.cell? ⟨b, off + i, none⟩ = some (.slice (qa i) (qn i) (qc i)) := ⟨(World.cell?_of_block (a := ⟨bb, 0, none⟩) e9).trans HSA.1, (World.cell?_of_block (a := ⟨b, off + i, none⟩) e9b).trans HSA.2⟩
            have F9 : W9.frozen? ⟨bb, 0, none⟩ = false := (World.frozen?_of_block (a := ⟨bb, 0, none⟩) e9).trans hBA.f0
            refine hK _ _ ⟨fun _ => HS9, ?_⟩
            clear hK
            conv => arg 9; simp [Act.put]
            refine wpAnyR_one (i := 11) (by kernel_rfl) rfl (fun K hK => ?_)
            go_simp
            refine hK _ _ ⟨fun _ => HS9, ?_⟩
            clear hK
            conv => arg 9; simp [Act.put]
            refine wpAnyR_one (i := 12) (by kernel_rfl) rfl (fun K hK => ?_)
            go_simp
            refine hK _ _ ⟨fun _ => HS9, ?_⟩
            clear hK
            conv => arg 9; simp [Act.put]
            refine wpAnyR_one (i := 13) (by kernel_rfl) rfl (fun K hK => ?_)
            go_simp
            refine hK _ _ ⟨fun h => absurd h (by decide), ?_⟩
            clear hK
            refine wpAnyR_done (by kernel_rfl) ?_ _
            have T4 : Tq w (W9.setCell ⟨bb, 0, none⟩ (.slice so2 (m' + 1) sc2)) S bb m (i + 1) qa qn qc so2 (m' + 1) sc2 y (vs' ++ [(.slice (qa i) (qn i) (qc i))]) := ⟨hB4, by have := HT1.out.lo; omega, by have := HMM.out.1; omega, HK2.out.trans (K4.mono fun g _ hg => by
              rcases hg with rfl | hg
              · exact HB2.out.fb.up
              · exact (HB2.out.fs g hg).1.up), fun e h1 h2 => by
              have hvl := HB2.out.vl
              by_cases e3 : e < m'
              · obtain ⟨j, hj, e4⟩ := HT1.out.ent e h1 e3
                exact ⟨j, by omega, by rw [List.getElem?_append_left (by omega)]; exact e4⟩
              · obtain rfl : e = m' := by omega
                exact ⟨i, by omega, by rw [← hvl]; simp⟩⟩
            clear HS HSA HS9 F9 cA hBA nA bA g9 a9 r9 e9 e9b hB4 K4 HB2 HK2
            generalize W9.setCell ⟨bb, 0, none⟩ (.slice so2 (m' + 1) sc2) = W4 at *
            go_wp2
            go_roundw
            case rel => exact ⟨i + 1, by omega, by go_num, _, _, _, _, _, T4⟩
            case measure => simp [intOf]; omega
      · go_wp2
        go_roundw
        case rel => exact ⟨i + 1, by have := HLT.out; omega, by go_num, _, _, _, _, _, T1.next⟩
        case measure => have := HLT.out; simp [intOf]; omega
    · obtain rfl : n = i := by omega
      have HT := (show Hid _ from TT)
      have b0 := TT.bq.c0
      have L0 : Bq wr (SS w S qa qn qc n) bb so' m' sc' sz' vs' ∧ Chg (SS w S qa qn qc n) w wr := ⟨TT.bq, TT.chg⟩
      have hmm : m' ≤ m + n := TT.hi
      have HLO : Hid (m ≤ m') := TT.lo
      clear TT
      go_wp2
      clear b0
      go_loopw [8] (fun s V => ∃ e : Nat, m ≤ e ∧ e ≤ m' ∧ s = .int .i64 (e : Nat) ∧ ∃ vs2 : List Value, (∀ e', e ≤ e' → vs2[e']? = vs'[e']?) ∧ Bq V (SS w S qa qn qc n) bb so' m' sc' sz' vs2 ∧ Chg (SS w S qa qn qc n) w V) (fun s _ => m' - (intOf s).toNat)
      case atStart => exact ⟨m, Nat.le_refl _, HLO.out, rfl, vs', fun _ _ => rfl, L0.1, L0.2⟩
      case round =>
        obtain ⟨e, he1, he2, rfl, vs2, hsame, B2, K2⟩ := hrel
        clear L0
        have b0 := B2.c0
        by_cases hem : e < m'
        · obtain ⟨jq, hjq, hv⟩ := HT.out.ent e he1 hem
          have hv2 : vs2[e]? = some (.slice (qa jq) (qn jq) (qc jq)) := (hsame e (Nat.le_refl _)).trans hv
          obtain ⟨_, _, _, hqn⟩ := HL.out.rows jq hjq
          generalize qa jq = xo at *
          generalize qn jq = xn at *
          generalize qc jq = xc at *
          obtain ⟨gs, hgs⟩ := own_lo0 B2.shp (by omega)
          have HGS : Hid (so' = some ⟨gs, 0, none⟩) := hgs
          obtain ⟨l, ol, ml⟩ := B2.rs.own e _ hv2
          have hll : l.length = xn := by
            rcases ol.2 with ⟨e1, e2⟩ | ⟨g, cap, cur, e1, _⟩
            · cases e1; exact e2
            · cases e1; rfl
          rw [hll] at ol
          have G2 : Gr wr 3 (.slice xo xn xc) xn (mQ e) := ⟨l, ol, hll, ml⟩
          have ce : wr.cell? ⟨gs, e, none⟩ = some (.slice xo xn xc) := by
            have hh := B2.shp
            rw [hgs] at hh
            rw [hh.cellAt e (by omega)]; exact hv2
          have wm : IntKind.i64.wrap (-1 - (e : Int)) = mQ e := by have := HN.out; rw [IntKind.wrap_i64]; unfold mQ; omega
          have wm2 : wrap64 (-1 - (e : Int)) = mQ e := by have := HN.out; unfold mQ wrap64; omega
          have cR := fun V => roomQ_any xn xc V (by omega)
          have HB2 : Hid (Bq wr (SS w S qa qn qc n) bb (some ⟨gs, 0, none⟩) m' sc' sz' vs2) := by rw [hgs] at B2; exact B2
          have HK2 := (show Hid _ from K2)
          have HV2 := (show Hid _ from hv2)
          have HSM := (show Hid _ from hsame)
          have e0 : (0 : Int) ≤ (e : Int) := by omega
          have e1 : (e : Int) < (m' : Int) := by omega
          rw [hgs] at b0
          have HLT : Hid (e < m') := hem
          clear B2 K2 ol ml hv hsame hgs hv2 hll
          go_wp2_with (go_at_call 25; (with_reducible refine (cR _).mono ?_); rintro e9 V1 ⟨rfl, hV1⟩; rw [hV1]; clear hV1 V1)
          clear b0 ce
          obtain ⟨WR, hWR⟩ : ∃ W, W = wr := ⟨_, rfl⟩
          subst hWR
          go_loopw [9] (fun s V => ∃ k : Nat, s = .slice xo k xc ∧ Gr V 3 (.slice xo k xc) k (mQ e) ∧ Chg (fun g => (Value.slice xo xn xc).ownBlock = some g) WR V) (fun s _ => frQ xn xc - lenV s)
          case atStart => exact ⟨xn, rfl, G2, Chg.refl _ _⟩
          case round =>
            obtain ⟨k, rfl, hG, hC⟩ := hrel
            clear G2
            by_cases hlt : k < frQ xn xc
            · have hkc : k < xc := Nat.lt_of_lt_of_le hlt (frQ_cap _ _)
              obtain ⟨g, hg⟩ := hG.lo hkc
              subst hg
              have bA := box_belowL wr (.cells #[.int .i64 (mQ e)] 3)
              have nA := allocNewL wr (.cells #[.int .i64 (mQ e)] 3)
              have GA := hG.chg (Chg.of_below bA (Nat.le_refl _) (fun _ => False)) fun _ _ e => e
              have cA : (wr.alloc (.cells #[.int .i64 (mQ e)] 3)).cell? ⟨wr.heap.size, 0, none⟩ = some (.int .i64 (mQ e)) := (cell_of_row _ _ 0 _ 3 (0, 0) nA).trans rfl
              have hCA := hC.trans (Chg.of_below bA (Nat.le_refl _) _)
              have t1 : (k : Int) < (frQ xn xc : Int) := by omega
              have HLT2 : Hid (k < frQ xn xc) := hlt
              clear hG hC hlt
              go_wp2_with (at_builtin; refine Gr.push (t := 28) Try.underlying28 (by kernel_rfl) rfl _ _ rfl GA rfl rfl cA hkc ?_; intro w9 G9 g9)
              go_roundw
              case rel => exact ⟨k + 1, rfl, G9, hCA.trans ((Chg.of_grown g9).mono fun j _ e => e)⟩
              case measure => have := HLT2.out; simp [lenV]; omega
            · have t1 : ¬ (k : Int) < (frQ xn xc : Int) := by omega
              obtain ⟨l1, q1, q2, q3⟩ := hG
              obtain ⟨B9, K9, c9, ⟨v9, s9⟩, z9⟩ := HB2.out.regrow HV2.out hC (x' := .slice xo k xc) (l := l1) (by rw [q2]; exact q1) q3 (by cases xo <;> rfl)
              have HB9 := (show Hid _ from B9)
              have HK9 : Hid _ := HK2.out.trans (K9.mono fun g _ hg => by
                rcases hg with rfl | hg
                · exact (HB2.out.fs g rfl).1
                · exact (HB2.out.fv e _ g HV2.out hg).1)
              have hnn2 := HN.out
              clear B9 K9 q1 q2 q3 hC
              go_wp2
              go_roundw
              case rel => exact ⟨e + 1, by omega, by omega, by go_num, _, fun e' he' => by rw [List.getElem?_set_ne (by omega)]; exact HSM.out e' (by omega), HGS.out ▸ HB9.out, HK9.out⟩
              case measure => have := HLT.out; simp [intOf]; omega
        · obtain rfl : m' = e := by omega
          have hnn2 := HN.out
          go_wp2
          (try simp only [Exit.inBlock, Exit.then])
          (first | refine bodyPost_end (v := .tuple #[]) (by simp [results, Try.results8]) rfl ?_ | refine bodyPost_ret (v := .tuple #[]) (by simp [results, Try.results8]) rfl ?_)
          have hr : ∀ g, SS w S qa qn qc n g → S g ∨ w.heap.size ≤ g ∨ R g := fun g hg => hg.imp id (fun hg => hg.imp id (fun ⟨j, hj, e⟩ => HL.out.inR j g hj e))
          exact ⟨rfl, ⟨_, _, _, _, _, B2.mono hr, hmm⟩, K2.mono fun g hgw hg => by
            rcases hr g hg with h1 | h1 | h1
            · exact .inl h1
            · omega
            · exact .inr h1⟩
end Go.Proofs.Ytdeglhifemmknaa
