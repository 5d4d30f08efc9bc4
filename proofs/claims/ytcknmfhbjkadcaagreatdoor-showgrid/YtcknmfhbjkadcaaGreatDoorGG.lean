
/- ShowGrid: rows of strings in memory; Split, Fields, Join. -/

import Derived.Test.YtcknmfhbjkadcaaGreatDoorGD

import Derived.Test.YtcknmfhbjkadcaaGreatDoorAt

import Derived.Laws.AppendOwn

namespace Go.Proofs.YtcknmfhbjkadcaaGreatDoor

open Go.RowKit

set_option linter.unusedVariables false

/-! ### the array in its box -/

structure Gb (w V : World) (so ao : Option Addr) (sn sc an ac : Nat) (S A : List Int) : Prop where
  a : V.heap[w.heap.size]? = some (.cells #[.slice so sn sc, .slice ao an ac] 25 (0, 0))
  r1 : Rd V so sn S
  r2 : Rd V ao an A
  bel : Below w.heap.size w V
theorem Gb.below {w V V' : World} {so ao : Option Addr} {sn sc an ac : Nat} {S A : List Int} (h : Gb w V so ao sn sc an ac S A) (k : Below V.heap.size V V') : Gb w V' so ao sn sc an ac S A :=
  ⟨(k.block _ (Array.getElem?_eq_some_iff.1 h.a).1).trans h.a, h.r1.below k (Nat.le_refl _), h.r2.below k (Nat.le_refl _), h.bel.trans (k.mono h.bel.size)⟩
theorem gb_start (w : World) (so ao : Option Addr) (sn sc an ac : Nat) (S A : List Int) (h1 : Rd w so sn S) (h2 : Rd w ao an A) : Gb w (w.alloc (.cells #[.slice so sn sc, .slice ao an ac] 25)) so ao sn sc an ac S A := by
  have k1 := box_below w (.cells #[.slice so sn sc, .slice ao an ac] 25)
  exact ⟨allocNew w _, h1.below k1 (Nat.le_refl _), h2.below k1 (Nat.le_refl _), k1⟩
theorem may_mk {s a : List Int} (h1 : mayF s = 0) (h2 : (a.length : Int) = pr s) : mayA s a = 0 := by
  unfold mayA
  rw [if_neg (by simp [h1]), if_neg (by simp [h2])]
theorem may_lst {n : Nat} {xs : List Int} (hl : xs.length = n) (h : n ≤ 4096) : mayA [(n : Int)] xs = 0 := by
  refine may_mk (mayF_ok (fun k hk => ?_) (by simp) ?_) ?_
  · obtain rfl : k = 0 := by simpa using hk
    show (0 : Int) ≤ n; omega
  · show (if (n : Int) = 0 then (1 : Int) else 1 * (n : Int)) ≤ 4096
    split <;> omega
  · show (xs.length : Int) = 1 * (n : Int)
    omega

set_option maxHeartbeats 4000000 in
set_option maxRecDepth 20000 in
theorem grid_no (so ao : Option Addr) (sn sc an ac : Nat) (S A : List Int) (w : World) (h1 : Rd w so sn S) (h2 : Rd w ao an A) (T : Tb w) (my : mayA S A ≠ 0) :
    Calls Tryz.prog 3 #[.agg #[.slice so sn sc, .slice ao an ac]] w fun e w' => e = .returned (.bool true) ∧ Below w.heap.size w w' := by
  have X0 := gb_start w so ao sn sc an ac S A h1 h2
  have cG := begun10_any _ (T.below X0.bel)
  have TX := fun V (X : Gb w V so ao sn sc an ac S A) => text_no so ao sn sc an ac S A V X.r1 X.r2 my
  have tm : (mayA S A != 0) = true := by simpa using my
  clear my
  go_enter Tryz.func3, Tryz.ntmps3
  go_wp2_with (first
    | (go_at_call 4; (with_reducible refine cG.mono ?_); rintro e w1 ⟨rfl, k1⟩; have X1 := X0.below k1; obtain ⟨a0, a1, _, _⟩ := box2 X1.a; have cT := TX w1 X1)
    | (go_at_call 5; (with_reducible refine cT.mono ?_); rintro e w2 ⟨rfl, k2⟩; have X2 := X1.below k2; obtain ⟨b0, b1, _, _⟩ := box2 X2.a; have cM := mayA_any so ao sn sc an ac S A w2 X2.r1 X2.r2; skip)
    | (go_at_call 6; (with_reducible refine cM.mono ?_); rintro e w3 ⟨rfl, k3⟩; have X3 := X2.below k3; skip))
  go_ret
  exact ⟨rfl, X3.bel⟩

theorem txt_none (S : List Int) : txt S [] = [] := by
  unfold txt
  split
  · rfl
  · rfl
set_option maxHeartbeats 4000000 in
set_option maxRecDepth 20000 in
theorem grid_empty (so ao : Option Addr) (sn sc ac : Nat) (S : List Int) (w : World) (h1 : Rd w so sn S) (h2 : Rd w ao 0 []) (T : Tb w) (my : mayA S [] = 0) :
    Calls Tryz.prog 3 #[.agg #[.slice so sn sc, .slice ao 0 ac]] w fun e w' => e = .returned (.bool true) ∧ Below w.heap.size w w' := by
  have X0 := gb_start w so ao sn sc 0 ac S [] h1 h2
  have cG := begun10_any _ (T.below X0.bel)
  have TX := fun V (X : Gb w V so ao sn sc 0 ac S []) => text_ok so ao sn sc 0 ac S [] V X.r1 X.r2 my (T.below X.bel)
  rw [txt_none] at TX
  have hmy : Hid (mayA S [] = 0) := my
  clear my
  go_enter Tryz.func3, Tryz.ntmps3
  go_wp2_with (first
    | (go_at_call 4; (with_reducible refine cG.mono ?_); rintro e w1 ⟨rfl, k1⟩; have X1 := X0.below k1; obtain ⟨a0, a1, _, _⟩ := box2 X1.a; have cT := TX w1 X1)
    | (go_at_call 5; (with_reducible refine cT.mono ?_); rintro e w2 ⟨rfl, k2⟩; have X2 := X1.below k2; obtain ⟨b0, b1, _, _⟩ := box2 X2.a; have cM := mayA_any so ao sn sc 0 ac S [] w2 X2.r1 X2.r2; rw [hmy.out] at cM)
    | (go_at_call 6; (with_reducible refine cM.mono ?_); rintro e w3 ⟨rfl, k3⟩; have X3 := X2.below k3; obtain ⟨c0, c1, _, _⟩ := box2 X3.a; skip))
  go_ret
  exact ⟨rfl, X3.bel⟩

/-! ### the list of the atoms in Flat's form -/

theorem fl_one (z : Int) : fl [((1 : Nat) : Int)] [z] = 49 :: 32 :: 36 :: 32 :: inL [z] := by
  have h : ¬ bareB [((1 : Nat) : Int)] [z] := by unfold bareB; simp
  unfold fl
  rw [if_neg h, inL_cons, inL_cons, sp_cons, sp_nil, List.append_nil, List.append_nil, show wrt ((1 : Nat) : Int) = [49] by decide +kernel]
  rfl
theorem fl_more {n : Nat} {A : List Int} (h : 1 < A.length) : fl [(n : Int)] A = inL A := by
  unfold fl
  rw [if_pos]
  exact .inr ⟨rfl, h⟩
end Go.Proofs.YtcknmfhbjkadcaaGreatDoor

namespace Go.Proofs.YtcknmfhbjkadcaaGreatDoor

open Go.RowKit

set_option linter.unusedVariables false

theorem txt_low {S A : List Int} (h : S.length < 2) : txt S A = inL A := if_pos h
/-- The texts of the law's last row, in the form in which Go compares them. -/
theorem bs_pre (x : List UInt8) : (⟨#[49, 32, 36, 32]⟩ : ByteArray) ++ ⟨x.toArray⟩ = ⟨(49 :: 32 :: 36 :: 32 :: x).toArray⟩ := bs_app [49, 32, 36, 32] x
theorem inL_small {w : World} {ao : Option Addr} {an : Nat} {A : List Int} (h : Rd w ao an A) : (inL A).length ≤ 22 * an := by
  have := sp_len A (in64_of h)
  unfold inL
  rw [List.length_drop]
  have := h.len
  omega
set_option maxHeartbeats 4000000 in
set_option maxRecDepth 20000 in
theorem grid_low (so ao : Option Addr) (sn sc an ac : Nat) (S A : List Int) (w : World) (h1 : Rd w so sn S) (h2 : Rd w ao an A) (sa : Sl ao an ac) (T : Tb w) (my : mayA S A = 0) (hn : 1 ≤ an) (hs : sn < 2) :
    Calls Tryz.prog 3 #[.agg #[.slice so sn sc, .slice ao an ac]] w fun e w' => e = .returned (.bool true) ∧ Below w.heap.size w w' := by
  have X0 := gb_start w so ao sn sc an ac S A h1 h2
  have cG := begun10_any _ (T.below X0.bel)
  have TX := fun V (X : Gb w V so ao sn sc an ac S A) => text_ok so ao sn sc an ac S A V X.r1 X.r2 my (T.below X.bel)
  have h4 : an ≤ 4096 := by have := pr_le (mayA_zero my).1; have := (mayA_zero my).2; have := h2.len; omega
  have LX := fun V (X : Gb w V so ao sn sc an ac S A) => list_any ao an ac A V X.r2 sa h4
  have FX := fun V (X : Gb w V so ao sn sc an ac S A) o1 c1 o2 c2 (r1 : Rd V o1 1 [(an : Int)]) (r2 : Rd V o2 an A) => flat_ok o1 o2 1 c1 an c2 [(an : Int)] A V r1 r2 (may_lst h2.len h4) (T.below X.bel)
  have hl := h1.len
  rw [txt_low (by omega)] at TX
  have hmy : Hid (mayA S A = 0) := my
  have t0 : ((an : Int) == 0) = false := by simp; omega
  have t0' : (an == 0) = false := by simp; omega
  have t1 : decide ((sn : Int) < 2) = true := by simp; omega
  have t1' : decide (sn < 2) = true := by simp; omega
  have hA := h2.len
  clear my hl
  by_cases h1n : an = 1
  · subst h1n
    obtain ⟨z, rfl⟩ : ∃ z, A = [z] := by
      cases A with
      | nil => simp at hA
      | cons z r => cases r with
        | nil => exact ⟨z, rfl⟩
        | cons y r => simp at hA
    rw [fl_one] at FX
    have q2 := bs_pre (inL [z])
    have q3 : ¬ 9223372036854775807 < 4 + (inL [z]).length := by have := inL_small h2; omega
    generalize inL [z] = x at *
    clear hA hn h4
    go_enter Tryz.func3, Tryz.ntmps3
    go_wp2_with (first
      | (go_at_call 4; (with_reducible refine cG.mono ?_); rintro e w1 ⟨rfl, k1⟩; have X1 := X0.below k1; obtain ⟨a0, a1, _, _⟩ := box2 X1.a; have cT := TX w1 X1)
      | (go_at_call 5; (with_reducible refine cT.mono ?_); rintro e w2 ⟨rfl, k2⟩; have X2 := X1.below k2; obtain ⟨b0, b1, _, _⟩ := box2 X2.a; have cM := mayA_any so ao sn sc 1 ac S [z] w2 X2.r1 X2.r2; rw [hmy.out] at cM)
      | (go_at_call 6; (with_reducible refine cM.mono ?_); rintro e w3 ⟨rfl, k3⟩; have X3 := X2.below k3; obtain ⟨c0, c1, _, _⟩ := box2 X3.a; have cL := LX w3 X3)
      | (go_at_call 7; (with_reducible refine cL.mono ?_); rintro e w4 ⟨o1, e1, o2, e2, rfl, f1, f2, -, k4⟩; have X4 := X3.below k4; have kb := box_below w4 (.cells #[.slice o1 1 e1, .slice o2 1 e2] 25); have X5 := X4.below kb; obtain ⟨d0, d1, _, _⟩ := box2 X5.a; obtain ⟨u0, u1, _, _⟩ := box2 (allocNew w4 (.cells #[.slice o1 1 e1, .slice o2 1 e2] 25)); have cF := FX _ X5 o1 e1 o2 e2 (f1.rd.below kb (Nat.le_refl _)) (f2.rd.below kb (Nat.le_refl _)))
      | (go_at_call 8; (with_reducible refine cF.mono ?_); rintro e w6 ⟨rfl, k6⟩; have X6 := X5.below k6; obtain ⟨p0, p1, _, _⟩ := box2 X6.a; skip))
    all_goals go_ret
    all_goals exact ⟨rfl, X6.bel⟩
  · rw [fl_more (by omega)] at FX
    have t2 : ((an : Int) == 1) = false := by simp; omega
    have t2' : (an == 1) = false := by simp; omega
    generalize inL A = x at *
    clear hA hn h4 h1n
    go_enter Tryz.func3, Tryz.ntmps3
    go_wp2_with (first
      | (go_at_call 4; (with_reducible refine cG.mono ?_); rintro e w1 ⟨rfl, k1⟩; have X1 := X0.below k1; obtain ⟨a0, a1, _, _⟩ := box2 X1.a; have cT := TX w1 X1)
      | (go_at_call 5; (with_reducible refine cT.mono ?_); rintro e w2 ⟨rfl, k2⟩; have X2 := X1.below k2; obtain ⟨b0, b1, _, _⟩ := box2 X2.a; have cM := mayA_any so ao sn sc an ac S A w2 X2.r1 X2.r2; rw [hmy.out] at cM)
      | (go_at_call 6; (with_reducible refine cM.mono ?_); rintro e w3 ⟨rfl, k3⟩; have X3 := X2.below k3; obtain ⟨c0, c1, _, _⟩ := box2 X3.a; have cL := LX w3 X3)
      | (go_at_call 7; (with_reducible refine cL.mono ?_); rintro e w4 ⟨o1, e1, o2, e2, rfl, f1, f2, -, k4⟩; have X4 := X3.below k4; have kb := box_below w4 (.cells #[.slice o1 1 e1, .slice o2 an e2] 25); have X5 := X4.below kb; obtain ⟨d0, d1, _, _⟩ := box2 X5.a; obtain ⟨u0, u1, _, _⟩ := box2 (allocNew w4 (.cells #[.slice o1 1 e1, .slice o2 an e2] 25)); have cF := FX _ X5 o1 e1 o2 e2 (f1.rd.below kb (Nat.le_refl _)) (f2.rd.below kb (Nat.le_refl _)))
      | (go_at_call 8; (with_reducible refine cF.mono ?_); rintro e w6 ⟨rfl, k6⟩; have X6 := X5.below k6; obtain ⟨p0, p1, _, _⟩ := box2 X6.a; skip))
    all_goals go_ret
    all_goals exact ⟨rfl, X6.bel⟩
end Go.Proofs.YtcknmfhbjkadcaaGreatDoor

namespace Go.Proofs.YtcknmfhbjkadcaaGreatDoor

open Go.RowKit

set_option linter.unusedVariables false

/-! ### what is known of the lines -/

structure Grd (LL : List (List UInt8)) (S' A : List Int) (R m : Nat) (pos : Nat → Nat) : Prop where
  zero : pos 0 = 0
  succ : ∀ r, r < R → pos (r + 1) = pos r + trz (digs S' ((r + 1 : Nat) : Int)) + 1
  len : LL.length = pos R + 1
  ne : ∀ r, r ≤ R → LL.getD (pos r) [] ≠ []
  same : ∀ r, r ≤ R → (LL.getD (pos r) []).length = (LL.getD 0 []).length
  words : ∀ r, r ≤ R → Lib.fields (LL.getD (pos r) []) = (List.range m).map fun c => wrt (nth A (r * m + c))
  asc : ∀ r, r ≤ R → ∀ b ∈ LL.getD (pos r) [], b.toNat < 128
  gap : ∀ r, r < R → ∀ i, pos r < i → i < pos (r + 1) → LL.getD i [] = []
theorem getD_of {LL : List (List UInt8)} {i : Nat} {l : List UInt8} (h : LL[i]? = some l) : LL.getD i [] = l := by
  rw [List.getD_eq_getElem?_getD, h]; rfl
theorem grd_of (S' A : List Int) (m R : Nat) (hm : 0 < m) (hA : A.length = (R + 1) * m) : Grd (lineT S' A m A.length 0 :: lns (rws S' A m A.length R)) S' A R m (Ps (rws S' A m A.length R)) := by
  have rl := rws_len S' A m A.length R
  have z : Ps (rws S' A m A.length R) 0 = 0 := by cases rws S' A m A.length R <;> rfl
  have ln : ∀ r, r ≤ R → (lineT S' A m A.length 0 :: lns (rws S' A m A.length R)).getD (Ps (rws S' A m A.length R) r) [] = lineT S' A m A.length r := by
    intro r hr
    cases r with
    | zero => rw [z]; rfl
    | succ j =>
      have hj : j < (rws S' A m A.length R).length := by omega
      have := (line_at (rws S' A m A.length R) (lineT S' A m A.length 0) j hj).1
      rw [rws_at hj] at this
      exact getD_of this
  refine ⟨z, fun r hr => ?_, ?_, fun r hr => ?_, fun r hr => ?_, fun r hr => ?_, fun r hr => ?_, fun r hr i h1 h2 => ?_⟩
  · have hj : r < (rws S' A m A.length R).length := by omega
    have := ps_succ _ r hj
    rw [rws_at hj] at this
    exact this
  · rw [List.length_cons, lines_len, rl]
  · rw [ln r hr]; exact line_ne r hm
  · rw [ln r hr]
    have : (r + 1) * m ≤ A.length := by rw [hA]; exact Nat.mul_le_mul_right _ (by omega)
    exact line_len this
  · rw [ln r hr]; exact line_words r hm
  · rw [ln r hr]; exact line_ascii r
  · have hj : r < (rws S' A m A.length R).length := by omega
    have e := ps_succ _ r hj
    have := (line_at (rws S' A m A.length R) (lineT S' A m A.length 0) r hj).2 (i - (Ps (rws S' A m A.length R) r + 1)) (by omega)
    rw [show Ps (rws S' A m A.length R) r + 1 + (i - (Ps (rws S' A m A.length R) r + 1)) = i by omega] at this
    exact getD_of this
def wds (A : List Int) (n : Nat) : List (List UInt8) := (List.range n).map fun k => wrt (nth A k)
theorem wds_row (A : List Int) (r m : Nat) : wds A (r * m) ++ ((List.range m).map fun c => wrt (nth A (r * m + c))) = wds A ((r + 1) * m) := by
  unfold wds
  rw [show (r + 1) * m = r * m + m by rw [Nat.add_mul, Nat.one_mul], List.range_add, List.map_append, List.map_map]
  rfl
theorem wds_all {A : List Int} {n : Nat} (h : A.length = n) : wds A n = A.map wrt := by subst h; exact range_wrt A

/-! ### rows of strings -/

def strs (ls : List (List UInt8)) : List Value := ls.map fun l => .string ⟨l.toArray⟩
theorem strs_len (ls : List (List UInt8)) : (strs ls).length = ls.length := by simp [strs]
theorem strs_app (a b : List (List UInt8)) : strs (a ++ b) = strs a ++ strs b := by simp [strs]
structure Ln (V : World) (g : Nat) (ls : List (List UInt8)) : Prop where
  b : V.heap[g]? = some (.cells (strs ls).toArray 9 (0, 0))
theorem Ln.below {V V' : World} {g : Nat} {ls : List (List UInt8)} (h : Ln V g ls) (k : Below V.heap.size V V') : Ln V' g ls :=
  ⟨(k.block _ (Array.getElem?_eq_some_iff.1 h.b).1).trans h.b⟩
theorem Ln.lt {V : World} {g : Nat} {ls : List (List UInt8)} (h : Ln V g ls) : g < V.heap.size := (Array.getElem?_eq_some_iff.1 h.b).1
theorem Ln.cell {V : World} {g : Nat} {ls : List (List UInt8)} (h : Ln V g ls) {i : Nat} (hi : i < ls.length) : V.cell? ⟨g, i, none⟩ = some (.string ⟨(ls.getD i []).toArray⟩) := by
  rw [cell_of_row V g i _ _ (0, 0) h.b]
  simp [strs, List.getD_eq_getElem?_getD, List.getElem?_eq_getElem hi]
theorem ln_new (w : World) (ls : List (List UInt8)) : Ln (w.alloc (.cells (strs ls).toArray 9)) w.heap.size ls := ⟨allocNew w _⟩

/-! ### what lies in Go's own variables -/

structure Tg (w : World) : Prop where
  t : Tb w
  spc : Lib.TabIs Tryz.prog w "strings.asciiSpace" .u8 Lib.asciiSpaceTab
  mx : ∃ m, w.cell? ⟨2, 0, none⟩ = some (.int .i64 m)
theorem cell_lt {w : World} {b i : Nat} {v : Value} (h : w.cell? ⟨b, i, none⟩ = some v) : b < w.heap.size := by
  rcases Nat.lt_or_ge b w.heap.size with h' | h'
  · exact h'
  · unfold World.cell? at h
    simp [Array.getElem?_eq_none h'] at h
theorem Tg.below {w w' : World} (h : Tg w) (k : Below w.heap.size w w') : Tg w' := by
  obtain ⟨m, e⟩ := h.mx
  exact ⟨h.t.below k, var_below h.spc k, m, (k.cell (cell_lt e)).trans e⟩

theorem split_strs (s : List UInt8) : (Lib.splitB ⟨#[10]⟩ 0 (Lib.countB ⟨s.toArray⟩ ⟨#[10]⟩) ⟨s.toArray⟩).map Value.string = strs (Lib.split s [10]) := by
  have e := Lib.splitB_data ⟨#[10]⟩ 0 (Lib.countB ⟨s.toArray⟩ ⟨#[10]⟩) ⟨s.toArray⟩
  have f : Lib.splitK [10] 0 (Lib.countB ⟨s.toArray⟩ ⟨#[10]⟩) s = Lib.split s [10] := rfl
  have e' : (Lib.splitB ⟨#[10]⟩ 0 (Lib.countB ⟨s.toArray⟩ ⟨#[10]⟩) ⟨s.toArray⟩).map (·.data.toList) = Lib.split s [10] := e.trans f
  unfold strs
  rw [← e', List.map_map]
  apply List.map_congr_left
  intro x _
  rfl
theorem split_any (s : List UInt8) (w : World) (hs : s.length < 4294967281) (T : Tg w) :
    Calls Tryz.prog 9 #[.string ⟨s.toArray⟩, .string ⟨#[10]⟩] w fun e w' => e = .returned (.slice (some ⟨w.heap.size, 0, none⟩) (Lib.split s [10]).length (Lib.split s [10]).length) ∧ Ln w' w.heap.size (Lib.split s [10]) ∧ Below w.heap.size w w' := by
  obtain ⟨m, hm⟩ := T.mx
  have c := Tryz.strings_Split ⟨s.toArray⟩ ⟨#[10]⟩ m w (by rw [bs_size]; exact hs) hm (by decide)
  have l := Lib.splitB_all ⟨#[10]⟩ (by decide) 0 (Lib.countB ⟨s.toArray⟩ ⟨#[10]⟩) ⟨s.toArray⟩ rfl
  have l2 : Lib.countB ⟨s.toArray⟩ ⟨#[10]⟩ + 1 = (Lib.split s [10]).length := by
    rw [← l, ← strs_len, ← split_strs, List.length_map]
  rw [split_strs, l2] at c
  refine c.mono ?_
  rintro e w' ⟨rfl, rfl⟩
  exact ⟨rfl, ln_new w _, box_below w _⟩
theorem fields_any (l : List UInt8) (w : World) (hs : l.length < 4294967281) (ha : ∀ b ∈ l, b.toNat < 128) (T : Tg w) :
    Calls Tryz.prog 11 #[.string ⟨l.toArray⟩] w fun e w' => e = .returned (.slice (some ⟨w.heap.size, 0, none⟩) (Lib.fields l).length (Lib.fields l).length) ∧ Ln w' w.heap.size (Lib.fields l) ∧ Below w.heap.size w w' := by
  have c := Tryz.strings_Fields ⟨l.toArray⟩ w (by rw [bs_size]; exact hs) (fun j b h => ha b (List.mem_of_getElem? h)) T.spc
  refine c.mono ?_
  rintro e w' ⟨rfl, rfl⟩
  exact ⟨rfl, ln_new w _, box_below w _⟩

/-! ### words grown by append -/

theorem infoS : (Tryz.prog.info? 9).map (fun i => (i.zero, i.size, i.bytes)) = some (some (.string ⟨#[]⟩), 1, 16) := by kernel_rfl
structure Wd (V : World) (B : Nat) (o : Option Addr) (n c : Nat) (ws : List (List UInt8)) : Prop where
  r : V.ownsRow B 9 1 (.slice o n c) n (strs ws)
theorem wd_nil (V : World) (B : Nat) : Wd V B none 0 0 [] := ⟨World.ownsRow_nil _ _ _ _⟩
theorem Wd.below {V V' : World} {B : Nat} {o : Option Addr} {n c : Nat} {ws : List (List UInt8)} (h : Wd V B o n c ws) (k : Below V.heap.size V V') : Wd V' B o n c ws := by
  refine ⟨h.r.1, ?_⟩
  rcases h.r.2 with x | ⟨g, cap, cur, h1, h2, h3, h4⟩
  · exact .inl x
  · exact .inr ⟨g, cap, cur, h1, h2, (k.block _ (Array.getElem?_eq_some_iff.1 h3).1).trans h3, h4⟩
theorem wpList_words {w : World} {ops : Array Oper} {rest : List Oper} {o : Oper} {a : Act} {Q : Exit → Act → World → Prop} (hgd : o.guard = none) (p x : Operand)
    (ho : o.op = .call { callee := .builtin .append, args := #[p, x], argTypes := #[33, 33] }) (B g : Nat) (wo : Option Addr) (n wc m : Nat) (ws fs : List (List UInt8)) (hs : a.eval p = .slice wo n wc) (hx : a.eval x = .slice (some ⟨g, 0, none⟩) m m)
    (h : Wd w B wo n wc ws) (hf : Ln w g fs) (hm : fs.length = m) (hn : n + m ≤ 100000) (hB : B ≤ w.heap.size)
    (hK : ∀ co cc w', Wd w' B co (n + m) cc (ws ++ fs) → Below B w w' → wpList Tryz.prog ops Q rest (a.put o.dst (.slice co (n + m) cc)) w') : wpList Tryz.prog ops Q (o :: rest) a w := by
  obtain ⟨i0, hi, hz0, hz1, hz2⟩ := info_parts infoS
  refine wpList_append_own w hgd p x 33 ho B 9 i0 _ 1 16 Tryz.underlying33 hi hz0 hz1 hz2 (by rfl) (by decide) _ n (strs ws) hs h.r ⟨g, 0, none⟩ m m (strs fs) hx (by rw [strs_len]; omega)
    (fun j q hq => ?_) (fun q hq => ?_) (by unfold maxLen; omega) (by omega) hB (fun v' w' ho' hg' _ => ?_)
  · rw [show (⟨g, 0, none⟩ : Addr).add j = ⟨g, j, none⟩ by unfold Addr.add; split <;> simp_all]
    rw [cell_of_row w g j _ _ (0, 0) hf.b]
    simpa using hq
  · unfold strs at hq
    obtain ⟨l, _, rfl⟩ := List.mem_map.1 hq
    rfl
  · have hbel : Below B w w' := (Below.refl _ _).grown hg' hB (fun k e => (h.r.lt k e).1)
    rw [← strs_app] at ho'
    obtain ⟨co, cc, rfl⟩ : ∃ co cc, v' = .slice co (n + m) cc := by
      rcases ho'.2 with ⟨rfl, e⟩ | ⟨g', cap, cur, rfl, _⟩
      · exact ⟨none, 0, by rw [e]⟩
      · exact ⟨_, _, rfl⟩
    exact hK co cc w' ⟨ho'⟩ hbel
theorem join_any (o : Option Addr) (n c : Nat) (ws : List (List UInt8)) (B : Nat) (w : World) (h : Wd w B o n c ws) (h0 : 0 < n) (hn : n ≤ 100000) (hl : (Lib.join ws [32]).length ≤ 140737488355328) :
    Calls Tryz.prog 12 #[.slice o n c, .string ⟨#[32]⟩] w fun e w' => e = .returned (.string ⟨(Lib.join ws [32]).toArray⟩) ∧ Below w.heap.size w w' := by
  rcases h.r.2 with ⟨_, e⟩ | ⟨g, cap, cur, e1, h2, h3, h4, h5, h6, h7⟩
  · omega
  · obtain ⟨rfl, -, rfl⟩ : o = some ⟨g, 0, none⟩ ∧ n = n ∧ c = cap := by simpa using e1
    have hlen : ws.length = n := by have := h.r.1; rw [strs_len] at this; omega
    have hc := h.r.cells (g := g) rfl
    have c0 := Tryz.strings_Join g 0 c (ws.map fun l => (⟨l.toArray⟩ : ByteArray)) ⟨#[32]⟩ w (fun j x hx => by
      rw [Nat.zero_add]
      have := hc j (.string x) (by
        unfold strs
        rw [List.getElem?_map] at hx ⊢
        cases hj : ws[j]? with
        | none => rw [hj] at hx; cases hx
        | some l => rw [hj] at hx; simp at hx; subst hx; rfl)
      rwa [show (⟨g, 0, none⟩ : Addr).add j = ⟨g, j, none⟩ by unfold Addr.add; split <;> simp_all] at this) (Array.getElem?_eq_some_iff.1 h3).1 (by simp; omega) (by simp; omega) (by rw [List.map_map]; simpa [Function.comp_def] using hl)
    have e2 : (ws.map fun l => (⟨l.toArray⟩ : ByteArray)).map (·.data.toList) = ws := by rw [List.map_map]; simp [Function.comp_def]
    rw [e2, List.length_map, hlen] at c0
    exact c0
end Go.Proofs.YtcknmfhbjkadcaaGreatDoor
