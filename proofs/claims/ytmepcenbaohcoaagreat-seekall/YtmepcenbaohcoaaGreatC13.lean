
/- Contract: one array more that a joiner takes. -/

import Derived.Test.YtmepcenbaohcoaaGreatA10

import Derived.Test.YtmepcenbaohcoaaGreatA9

import Derived.Test.YtmepcenbaohcoaaGreatRows

import Derived.ProofKit

import Derived.OpenShut

import Derived.ChangeOld

import Derived.Below

import Derived.Deep.Slices

import Derived.SizedLaws

import Derived.Test.YtmepcenbaohcoaaGreatRefs3

import Derived.RangeFuncNested

import Derived.RangeFuncCalls

import Derived.RangeFuncLeaves

import Derived.Shelf.Abstract

import Derived.Shelf.RegionOpen

import Derived.WalkKit

import Derived.OwnWalkIn

import Derived.TacticsInMore

import Derived.LoopNIn

import Derived.LoopIn

import Derived.Test.YtmepcenbaohcoaaGreatRefs

import Derived.RangeFuncBound

import Derived.Deep.OwnRows

import Derived.Lib.AppendZerosOnto

import Derived.Lib.Overlaps

import Derived.Deep.RegionLaw

import Derived.Laws.AppendOwnNone

namespace Go.Proofs.YtmepcenbaohcoaaGreat

open Go.RowKit

set_option linter.unusedVariables false

/-- The answers of Fill: the shape, the atoms. -/
def filS (sh : List Int) : List Int := if mayF sh = 0 then sh else []
def filA (sh : List Int) (n : Int) : List Int := if mayF sh = 0 then List.replicate (pr sh).toNat n else []

set_option maxHeartbeats 2000000 in
theorem fill_any (so : Option Addr) (sn sc : Nat) (sh : List Int) (n : Int) (w : World) (h : Rd w so sn sh) (hs : Sl so sn sc) (h1 : -9223372036854775808 ≤ n) (h2 : n ≤ 9223372036854775807) :
    Calls Tryz.prog 68 #[.slice so sn sc, .int .i64 n] w fun e w' => ∃ o1 n1 c1 o2 n2 c2, e = .returned (.tuple #[.agg #[.slice o1 n1 c1, .slice o2 n2 c2], .int .i64 (mayF sh)]) ∧ Ft 3 w' w.heap.size o1 n1 c1 (filS sh) ∧ Ft 2 w' w.heap.size o2 n2 c2 (filA sh n) ∧ apart o1 o2 ∧ Below w.heap.size w w' := by
  have k0 := box_below w (.cells #[.slice none 0 0, .slice none 0 0] 30)
  have b0 := allocNew w (.cells #[.slice none 0 0, .slice none 0 0] 30)
  have h' := h.below k0 (Nat.le_refl _)
  have hz := size_any so sn sc sh _ h'
  by_cases h0 : mayF sh = 0
  · have bd := pr_small h0 sh.length (Nat.le_refl _)
    rw [List.take_length] at bd
    rw [h0, sizeF_ok h0] at hz
    have e1 : filS sh = sh := if_pos h0
    have e2 : filA sh n = List.replicate (pr sh).toNat n := if_pos h0
    rw [e1, e2, h0]
    obtain ⟨m, hm⟩ : ∃ m : Nat, pr sh = (m : Int) := ⟨(pr sh).toNat, by omega⟩
    rw [hm] at hz ⊢
    simp only [Int.toNat_natCast]
    have hm4 : m ≤ 4096 := by omega
    clear hm bd e1 e2 h0
    have hc := clone_any so sn sc sh _ h' hs
    have hr : ∀ W : World, Calls Tryz.prog 87 #[.slice (some ⟨W.heap.size, 0, none⟩) 1 1, .int .i64 (m : Nat)] (W.alloc (.cells #[.int .i64 n] 2)) fun e w' => ∃ ao cap, e = .returned (.slice ao m cap) ∧ Ft 2 w' (W.heap.size + 1) ao m cap (List.replicate m n) ∧ Below (W.heap.size + 1) (W.alloc (.cells #[.int .i64 n] 2)) w' := by
      intro W
      have hb := allocNew W (.cells #[.int .i64 n] 2)
      have := repeat_any ⟨W.heap.size, 0, none⟩ 1 n m (W.alloc (.cells #[.int .i64 n] 2)) hm4 ((cell_of_row _ _ 0 _ _ (0, 0) hb).trans rfl) (by simp) rfl h1 h2
      rw [World.size_alloc] at this
      exact this
    go_enter Tryz.func68, Tryz.ntmps68
    go_wp2_with (first
      | (go_at_call 37; refine hz.mono ?_; rintro e w' ⟨rfl, hw⟩; rw [hw]; clear hw w')
      | (go_at_call 80; refine hc.mono ?_; rintro e w1 ⟨o1, c1, rfl, f1, hb1⟩; have bx1 := (hb1.block w.heap.size (by simp)).trans b0; have hs1 := hb1.size; simp only [World.size_alloc] at hs1)
      | (go_at_call 87; refine (hr _).mono ?_; rintro e w2 ⟨o2, c2, rfl, f2, hb2⟩; have kk := box_below w1 (.cells #[.int .i64 n] 2); have bx2 := (hb2.block w.heap.size (by omega)).trans ((kk.block w.heap.size (by omega)).trans bx1); obtain ⟨q0, q1, z0, z1⟩ := box2 bx2))
    (try simp only [Exit.inBlock, Exit.then])
    refine bodyPost_ret (v := .tuple #[.agg #[.slice o1 sn c1, .slice o2 m c2], .int .i64 0]) (by rw [results_cell_tmp rfl]; go_simp) rfl ?_
    have hb3 : Below w1.heap.size w1 w2 := kk.trans (hb2.mono (by omega))
    have f1' := f1.below hb3 (Nat.le_refl _)
    have hs2 := hb3.size
    have k := set2 w2 w.heap.size 0 1 (.slice o1 sn c1) (.slice o2 m c2)
    have a1 := f1.at
    have a2 := f2.at
    simp only [World.size_alloc] at a1
    refine ⟨o1, sn, c1, o2, m, c2, rfl, (f1'.keep1 k (fun b off e => ?_)).mono (by simp), (f2.keep1 k (fun b off e => ?_)).mono (by omega), ?_, below_set2 _ _ _ _ ((k0.trans (hb1.mono (by simp))).trans (hb3.mono (by omega))) (Nat.le_refl _) (Nat.le_refl _)⟩
    · have := (a1 b off e).1; intro e'; cases e'; omega
    · have := (a2 b off e).1; intro e'; cases e'; omega
    · intro p q e1 e2
      rcases f1.own.2 with ⟨e3, _⟩ | ⟨g, c, cur, e3, hB, hg, _⟩
      · cases e3; cases e1
      · rcases f2.own.2 with ⟨e4, _⟩ | ⟨g2, c2, cur2, e4, hB2, _⟩
        · cases e4; cases e2
        · cases e3; cases e4; cases e1; cases e2
          have := (Array.getElem?_eq_some_iff.1 hg).1
          simp; omega
  · have e1 : filS sh = [] := if_neg h0
    have e2 : filA sh n = [] := if_neg h0
    rw [e1, e2]
    have h0' : (mayF sh != 0) = true := by simpa using h0
    clear h0 e1 e2
    obtain ⟨q0, q1, z0, z1⟩ := box2 b0
    go_enter Tryz.func68, Tryz.ntmps68
    go_wp2_with (go_at_call 37; refine hz.mono ?_; rintro e w' ⟨rfl, hw⟩; rw [hw]; clear hw w')
    (try simp only [Exit.inBlock, Exit.then])
    refine bodyPost_ret (v := .tuple #[.agg #[.slice none 0 0, .slice none 0 0], .int .i64 (mayF sh)]) (by rw [results_cell_tmp rfl]; go_simp) rfl ?_
    refine ⟨none, 0, 0, none, 0, 0, rfl, Ft.nil _ _ _, Ft.nil _ _ _, apart_nil _, ?_⟩
    first | exact k0 | exact below_set2 _ _ _ _ k0 (Nat.le_refl _) (Nat.le_refl _)
end Go.Proofs.YtmepcenbaohcoaaGreat

namespace Go.Proofs.YtmepcenbaohcoaaGreat

open Go.RowKit

set_option linter.unusedVariables false

/-- An array in a box. -/
structure Bx (W : World) (g : Nat) (so : Option Addr) (sn sc : Nat) (ao : Option Addr) (an ac : Nat) (sh at' : List Int) : Prop where
  c0 : W.cell? ⟨g, 0, none⟩ = some (.slice so sn sc)
  c1 : W.cell? ⟨g, 1, none⟩ = some (.slice ao an ac)
  s : Rd W so sn sh
  a : Rd W ao an at'
theorem Bx.below {W W' : World} {g : Nat} {so : Option Addr} {sn sc : Nat} {ao : Option Addr} {an ac : Nat} {sh at' : List Int} (h : Bx W g so sn sc ao an ac sh at') (k : Below W.heap.size W W') : Bx W' g so sn sc ao an ac sh at' := by
  have l0 := World.block_lt_of_cell? W _ h.c0
  exact ⟨(k.cell (p := ⟨g, 0, none⟩) l0).trans h.c0, (k.cell (p := ⟨g, 1, none⟩) l0).trans h.c1, h.s.below k (Nat.le_refl _), h.a.below k (Nat.le_refl _)⟩
theorem bx_new {W : World} {so : Option Addr} {sn sc : Nat} {ao : Option Addr} {an ac : Nat} {sh at' : List Int} (h : Rd W so sn sh) (g : Rd W ao an at') : Bx (W.alloc (.cells #[.slice so sn sc, .slice ao an ac] 30)) W.heap.size so sn sc ao an ac sh at' := by
  have b0 := allocNew W (.cells #[.slice so sn sc, .slice ao an ac] 30)
  have k := box_below W (.cells #[.slice so sn sc, .slice ao an ac] 30)
  exact ⟨(cell_of_row _ _ 0 _ _ (0, 0) b0).trans rfl, (cell_of_row _ _ 1 _ _ (0, 0) b0).trans rfl, h.below k (Nat.le_refl _), g.below k (Nat.le_refl _)⟩
theorem btw {B : Nat} {a b c : World} (h : Below B a b) (k : Below b.heap.size b c) (hB : B ≤ b.heap.size) : Below B a c := h.trans (k.mono hB)

end Go.Proofs.YtmepcenbaohcoaaGreat

namespace Go.Proofs.YtmepcenbaohcoaaGreat

open Go.RowKit

set_option linter.unusedVariables false

theorem pz_foldl (l : List Int) : ∀ a : Int, l.foldl (fun p z => if z = 0 then p else p * z) a = a * pz l := by
  induction l with
  | nil => intro a; simp [pz]
  | cons z l ih =>
    intro a
    simp only [pz, List.foldl_cons]
    rw [ih, ih]
    split
    · simp
    · rw [Int.one_mul, Int.mul_assoc]
theorem pz_cons (z : Int) (l : List Int) : pz (z :: l) = (if z = 0 then 1 else z) * pz l := by
  conv => lhs; unfold pz; rw [List.foldl_cons, pz_foldl]
  simp
theorem mayF_tail {sh : List Int} (h : mayF sh = 0) : mayF (sh.drop 1) = 0 := by
  obtain ⟨h1, h2, h3⟩ := mayF_zero h
  cases sh with
  | nil => exact h
  | cons z l =>
    have hz : 0 ≤ z := h1 0 (by simp)
    have hl : ∀ k, k < l.length → 0 ≤ nth l k := fun k hk => by have := h1 (k + 1) (by simp; omega); simpa [nth] using this
    have hp := pz_pos (l := l) l.length (Nat.le_refl _) hl
    rw [List.take_length] at hp
    refine mayF_ok (by simpa using hl) (by simp at h2 ⊢; omega) ?_
    rw [pz_cons] at h3
    simp only [List.drop_succ_cons, List.drop_zero]
    split at h3
    · omega
    · have : 1 ≤ z := by omega
      have := Int.mul_le_mul_of_nonneg_right this (show 0 ≤ pz l by omega)
      omega
/-- Of an array that may be: so many items, so many atoms each. -/
theorem items_all {sh at' : List Int} (h : mayA sh at' = 0) {N z : Nat} (hN : tal sh = N) (hz : itmZ sh at' = z) : N * z = at'.length ∧ (0 < N → pr (sh.drop 1) = z) := by
  obtain ⟨h1, h2⟩ := mayA_zero h
  have e : (at'.length : Int) = N * pr (sh.drop 1) := by
    rw [h2]
    cases sh with
    | nil => simp [tal] at hN; rw [← hN]; simp [pr]
    | cons x l =>
      have : x = N := by simpa [tal, nth] using hN
      rw [pr_cons, this]; rfl
  have hp := pr_small (mayF_tail h1) (sh.drop 1).length (Nat.le_refl _)
  rw [List.take_length] at hp
  obtain ⟨m, hm⟩ : ∃ m : Nat, pr (sh.drop 1) = m := ⟨(pr (sh.drop 1)).toNat, by omega⟩
  rw [hm] at e
  have e' : at'.length = N * m := by exact_mod_cast e
  unfold itmZ at hz
  rw [hN, e'] at hz
  simp only [Int.toNat_natCast] at hz
  by_cases h0 : 0 < N
  · rw [Nat.mul_div_cancel_left _ h0] at hz
    subst hz
    exact ⟨e'.symm, fun _ => hm⟩
  · obtain rfl : N = 0 := by omega
    exact ⟨by rw [e']; simp, fun h => absurd h (by omega)⟩
theorem bx_first {w : World} {so : Option Addr} {sn sc : Nat} {ao : Option Addr} {an ac : Nat} {sh at' : List Int} (h : Rd w so sn sh) (g : Rd w ao an at') : Bx (w.alloc (.cells #[.slice so sn sc, .slice ao an ac] 30)) w.heap.size so sn sc ao an ac sh at' := bx_new h g

end Go.Proofs.YtmepcenbaohcoaaGreat

namespace Go.Proofs.YtmepcenbaohcoaaGreat

open Go.ChangeShapes Go.WideShapes Go.ChangeAt Go.RowKit

set_option linter.unusedVariables false

theorem own : ownKnob Tryz.prog.godebug = none := by kernel_rfl
theorem laidOut : laidOutB Tryz.prog = true := by kernel_rfl

/-- What is asked of numbers that are read. -/
structure Tz (s e : TypeId) : Prop where
  ty : Ty s e
  num : Tryz.prog.underlying e = some (.int .i64)
  one : Tryz.prog.cellsOf e = 1
  und : Tryz.checked.prog.underlying s = some (.slice e)
  bytes : Tryz.checked.prog.bytesOf e = 8
theorem tzI : Tz 25 3 := ⟨tyI, by kernel_rfl, by kernel_rfl, by kernel_rfl, by kernel_rfl⟩
theorem tzL : Tz 26 2 := ⟨tyL, by kernel_rfl, by kernel_rfl, by kernel_rfl, by kernel_rfl⟩

theorem cells_one {W : World} {a : Addr} {cs : List Value} (h : W.cells? 0 a 1 = some cs) : ∃ v, cs = [v] ∧ W.cell? a = some v := by
  obtain ⟨_, hl, hg⟩ := World.cells?_some h
  match cs, hl with
  | [c], _ =>
    have := hg 0 (by omega)
    have e : a.add 0 = a := by cases a; rfl
    rw [e] at this
    exact ⟨c, rfl, by simpa using this⟩
theorem addr_none {W : World} {a : Addr} {v : Value} (h : W.cell? a = some v) : ∃ b off, a = ⟨b, off, none⟩ := by
  obtain ⟨b, off, spot⟩ := a
  have := World.cell?_spot h
  simp at this
  subst this
  exact ⟨b, off, rfl⟩
theorem nth_made (f : Nat → Int) (N k : Nat) (h : k < N) : nth ((List.range N).map f) k = f k := by simp [nth, h]

/-- A slice of numbers that was read is a list. -/
theorem open_nums {s e : TypeId} (tz : Tz s e) {H : Type} {enc : TypeId × Value → H} {W : World} {fuel : Nat} {c : Value} {x : DataW H × List MemPlace} (h : DataW.trod enc Tryz.prog W 0 (fun _ => true) true fuel s [c] = some x)
    (hz : ∀ n ∈ x.1.weights Tryz.checked.prog s, n ≤ 140737488351232) : ∃ ao n cap zs, c = .slice ao n cap ∧ Rd W ao n zs ∧ Sl ao n cap := by
  rcases Go.Deep.open_slice tz.ty.und h with ⟨hcs, _⟩ | ⟨a', len, cap', m, n, D, Pl, hcs, _, hl, hm, hmm, hx, hel⟩
  · cases hcs
    exact ⟨_, _, _, [], rfl, Rd.nil _, fun _ => ⟨rfl, rfl⟩, by omega, by omega⟩
  · cases hcs
    simp at hmm
    subst hmm
    have hroom : m * 8 ≤ 140737488351232 := by
      have := hz (m * 8) (by rw [hx]; simp only [DataW.weights, tz.und, List.mem_cons, tz.bytes]; left; simp; omega)
      omega
    unfold maxLen at hm
    have hq : ∀ i, i < len → ∃ z : Int, W.cell? (a'.add i) = some (.int .i64 z) ∧ -9223372036854775808 ≤ z ∧ z ≤ 9223372036854775807 := by
      intro i hi
      obtain ⟨cs', h1, h2⟩ := hel i (by omega)
      rw [tz.one, Nat.mul_one] at h1
      obtain ⟨v, rfl, hv⟩ := cells_one h1
      obtain ⟨z, e, _, wf⟩ := DataW.trod_int tz.num h2
      simp at e
      subst e
      exact ⟨z, hv, bounds_i64 wf⟩
    obtain ⟨f, hf⟩ := Go.Deep.choose_lt hq
    refine ⟨_, _, _, (List.range len).map f, rfl, ⟨by simp, by omega, fun k hk => by rw [nth_made _ _ _ hk]; exact (hf k hk).2, fun h0 => ?_⟩, fun e => (by cases e), hl, by omega⟩
    have h00 := (hf 0 h0).1
    have e0 : a'.add 0 = a' := by cases a'; rfl
    rw [e0] at h00
    obtain ⟨b, off, rfl⟩ := addr_none h00
    have hb := World.block_lt_of_cell? W _ h00
    exact ⟨b, off, rfl, hb, fun k hk => by rw [nth_made _ _ _ hk]; have := (hf k hk).1; rwa [add_at] at this⟩

theorem cellsA : Tryz.prog.cellsOf 30 = 2 := by kernel_rfl
theorem cellsI : Tryz.prog.cellsOf 25 = 1 := by kernel_rfl
theorem cellsL : Tryz.prog.cellsOf 26 = 1 := by kernel_rfl

theorem two_of_len {cs : List Value} (h : cs.length = 2) : ∃ c0 c1, cs = [c0, c1] := by
  match cs, h with
  | [c0, c1], _ => exact ⟨c0, c1, rfl⟩
theorem weights_arr {H : Type} (y0 y1 : DataW H) : (DataW.agg [y0, y1]).weights Tryz.checked.prog 30 = y0.weights Tryz.checked.prog 25 ++ y1.weights Tryz.checked.prog 26 := by
  conv => lhs; rw [DataW.weights]
  rw [show Tryz.checked.prog.underlying 30 = _ from Tryz.underlying30]
  simp [DataW.weightsEach]

/-- An array that was read is two lists. -/
theorem open_arr {H : Type} {enc : TypeId × Value → H} {W : World} {fuel : Nat} {cs : List Value} {x : DataW H × List MemPlace} (h : DataW.trod enc Tryz.prog W 0 (fun _ => true) true fuel 30 cs = some x)
    (hz : ∀ n ∈ x.1.weights Tryz.checked.prog 30, n ≤ 140737488351232) : ∃ so sn sc ao an ac sh at', cs = [.slice so sn sc, .slice ao an ac] ∧ Rd W so sn sh ∧ Sl so sn sc ∧ Rd W ao an at' ∧ Sl ao an ac := by
  obtain ⟨y0, y1, n, rfl, hl, h0, h1⟩ := trod_struct2 Tryz.underlying30 h
  rw [cellsA] at hl
  obtain ⟨c0, c1, rfl⟩ := two_of_len hl
  simp only [cellsI, cellsL, List.drop_zero, List.drop_succ_cons, List.take_succ_cons, List.take_zero] at h0 h1
  have hz' := hz
  rw [weights_arr] at hz'
  obtain ⟨so, sn, sc, sh, rfl, r1, s1⟩ := open_nums tzI h0 (fun n hn => hz' n (List.mem_append.2 (.inl hn)))
  obtain ⟨ao, an, ac, at', rfl, r2, s2⟩ := open_nums tzL h1 (fun n hn => hz' n (List.mem_append.2 (.inr hn)))
  exact ⟨so, sn, sc, ao, an, ac, sh, at', rfl, r1, s1, r2, s2⟩

/-- The weights of an argument. -/
theorem weights_at {H : Type} {ts : List TypeId} {ds : List (DataW H)} (h : (DataW.weightsEach Tryz.checked.prog ts ds).all (· ≤ reachBytes) = true) {j : Nat} {t : TypeId} {d : DataW H} (ht : ts[j]? = some t) (hd : ds[j]? = some d) : ∀ n ∈ d.weights Tryz.checked.prog t, n ≤ 140737488351232 := by
  intro n hn
  have h2 : decide (n ≤ reachBytes) = true := List.all_eq_true.1 h _ (DataW.weights_mem_each ht hd n hn)
  have h3 := of_decide_eq_true h2
  unfold reachBytes at h3
  exact h3
end Go.Proofs.YtmepcenbaohcoaaGreat

namespace Go.Proofs.YtmepcenbaohcoaaGreat

open Go.RowKit

set_option linter.unusedVariables false

/-- A copy into a row of one's own, when it is run, of either kind of number. -/
theorem Ty.one {s e : TypeId} (ty : Ty s e) : (Tryz.prog.info? e).map (·.size) = some 1 := by
  obtain ⟨i0, hi, hz0, hz1, hz2⟩ := info_parts ty.info
  rw [hi]; simp [hz1]
/-- A row that holds these numbers at its head. -/
theorem Ft.row {e : TypeId} {w : World} {B g n cap : Nat} {zs : List Int} {cur : List Value} (hg : w.heap[g]? = some (.cells cur.toArray e (0, 0))) (hB : B ≤ g) (hl : zs.length = n) (hr : n * 8 ≤ 140737488351232) (hn : ∀ k, k < n → -9223372036854775808 ≤ nth zs k ∧ nth zs k ≤ 9223372036854775807)
    (hnc : n ≤ cap) (hcm : cap ≤ maxLen) (hcl : cur.length = cap) (ht : cur.take n = zs.map (Value.int .i64)) : Ft e w B (some ⟨g, 0, none⟩) n cap zs := by
  obtain ⟨ao, cap', ee, hf⟩ := Ft.mk' (e := e) (w := w) (B := B) (v := .slice (some ⟨g, 0, none⟩) n cap) hl hr hn ⟨by simp [hl], .inr ⟨g, cap, cur.toArray, rfl, hB, hg, hnc, hcm, by simp [hcl], by simpa using ht⟩⟩
  cases ee
  exact hf
end Go.Proofs.YtmepcenbaohcoaaGreat

namespace Go.Proofs.YtmepcenbaohcoaaGreat

open Go.RowKit Go.Shelf

set_option linter.unusedVariables false

theorem Rd.kept {w w' : World} {row : Option Nat} {ao : Option Addr} {n : Nat} {zs : List Int} (h : Rd w ao n zs) (hg : w.grownBy w' row) (hne : ∀ b off, ao = some ⟨b, off, none⟩ → some b ≠ row) : Rd w' ao n zs := by
  refine ⟨h.len, h.room, h.num, fun h0 => ?_⟩
  obtain ⟨b, off, e, hl, hc⟩ := h.cells h0
  exact ⟨b, off, e, Nat.lt_of_lt_of_le hl hg.size, fun k hk => hg.cell (hc k hk) (hne b off e)⟩

end Go.Proofs.YtmepcenbaohcoaaGreat

namespace Go.Proofs.YtmepcenbaohcoaaGreat

open Go.RowKit

set_option linter.unusedVariables false

theorem bt {B : Nat} {a b c : World} (h : Below B a b) (k : Below b.heap.size b c) (hB : B ≤ b.heap.size) : Below B a c := h.trans (k.mono hB)

end Go.Proofs.YtmepcenbaohcoaaGreat

namespace Go.Proofs.YtmepcenbaohcoaaGreat

open Go.RowKit

set_option linter.unusedVariables false

theorem infoA : (Tryz.prog.info? 30).map (fun i => (i.zero, i.size, i.bytes)) = some (some (.agg #[.slice none 0 0, .slice none 0 0]), 2, 48) := by kernel_rfl
def inn (sh : List Int) (r : Int) : List Int := sh.drop (sh.length - rankF sh.length r)
end Go.Proofs.YtmepcenbaohcoaaGreat

namespace Go.Proofs.YtmepcenbaohcoaaGreat

open Go.RowKit

set_option linter.unusedVariables false

/-- Arrays that a joiner was given: a row that grows, each array's lists its own. -/
structure Gv (W : World) (B : Nat) (go : Option Addr) (gn gc : Nat) (xs : Nat → List Int × List Int) : Prop where
  own : ∃ cs, W.ownsRow B 30 2 (.slice go gn gc) gn cs ∧ ∀ j, j < gn → ∃ so sn sc to tn tc, cs[j * 2]? = some (.slice so sn sc) ∧ cs[j * 2 + 1]? = some (.slice to tn tc) ∧ Ft 3 W B so sn sc (xs j).1 ∧ Ft 2 W B to tn tc (xs j).2
theorem Gv.nil (W : World) (B : Nat) (xs : Nat → List Int × List Int) : Gv W B none 0 0 xs := ⟨[], World.ownsRow_nil _ _ _ _, fun j hj => by omega⟩
theorem Gv.below {W W' : World} {B B' : Nat} {go : Option Addr} {gn gc : Nat} {xs : Nat → List Int × List Int} (h : Gv W B go gn gc xs) (hb : Below B' W W') (hB : W.heap.size ≤ B') : Gv W' B go gn gc xs := by
  obtain ⟨cs, h1, h2⟩ := h.own
  refine ⟨cs, ⟨h1.1, ?_⟩, fun j hj => ?_⟩
  · rcases h1.2 with h0 | ⟨g, c, cur, e, hB2, hg, r⟩
    · exact .inl h0
    · exact .inr ⟨g, c, cur, e, hB2, by rw [hb.block g (Nat.lt_of_lt_of_le (Array.getElem?_eq_some_iff.1 hg).1 hB)]; exact hg, r⟩
  · obtain ⟨so, sn, sc, to, tn, tc, a1, a2, a3, a4⟩ := h2 j hj
    exact ⟨so, sn, sc, to, tn, tc, a1, a2, a3.below hb hB, a4.below hb hB⟩
/-- A row of another kind is changed: a list of one's own stays. -/
theorem Ft.kind {e : TypeId} {W W' : World} {B b : Nat} {o : Option Addr} {n c : Nat} {zs : List Int} (h : Ft e W B o n c zs) (hg : W.grownBy W' (some b)) {cur : Array Value} {t : TypeId} (hb : W.heap[b]? = some (.cells cur t (0, 0))) (hne : e ≠ t) : Ft e W' B o n c zs :=
  h.keep1 hg (fun b' off e' => by
    intro e2
    rcases h.own.2 with ⟨e3, _⟩ | ⟨g, c', cur', e3, _, hg', _⟩
    · cases e3; cases e'
    · cases e3; cases e'; cases e2
      rw [hg'] at hb
      cases hb
      exact hne rfl)
theorem Gv.kind {W W' : World} {B b : Nat} {go : Option Addr} {gn gc : Nat} {xs : Nat → List Int × List Int} (h : Gv W B go gn gc xs) (hg : W.grownBy W' (some b)) {cur : Array Value} {t : TypeId} (hb : W.heap[b]? = some (.cells cur t (0, 0))) (h1 : 3 ≠ t) (h2 : 2 ≠ t) (h3 : 30 ≠ t) : Gv W' B go gn gc xs := by
  obtain ⟨cs, k1, k2⟩ := h.own
  refine ⟨cs, ⟨k1.1, ?_⟩, fun j hj => ?_⟩
  · rcases k1.2 with h0 | ⟨g, c, cur', e, hB2, hg', r⟩
    · exact .inl h0
    · refine .inr ⟨g, c, cur', e, hB2, (hg.block g (Array.getElem?_eq_some_iff.1 hg').1 (fun e2 => ?_)).trans hg', r⟩
      cases e2
      rw [hg'] at hb
      cases hb
      exact h3 rfl
  · obtain ⟨so, sn, sc, to, tn, tc, a1, a2, a3, a4⟩ := k2 j hj
    exact ⟨so, sn, sc, to, tn, tc, a1, a2, a3.kind hg hb h1, a4.kind hg hb h2⟩

end Go.Proofs.YtmepcenbaohcoaaGreat

namespace Go.Proofs.YtmepcenbaohcoaaGreat

open Go.RowKit

set_option linter.unusedVariables false

/-- A row of arrays, one array more. -/
theorem step_joinA {w : World} {ops : Array Oper} {o : Oper} {a : Act} {K : Act → World → Prop} {Q : Exit → Act → World → Prop} {E : Prop} (hgd : o.guard = none) (s x : Operand)
    (ho : o.op = .call { callee := .builtin .append, args := #[s, x], argTypes := #[55, 55] }) (B vb : Nat) (go : Option Addr) (n gc : Nat) (cs : List Value) (u v : Value) (hu : u.oneCell' = true) (hv' : v.oneCell' = true) (hs : a.eval s = .slice go n gc) (hx : a.eval x = .slice (some ⟨vb, 0, none⟩) 1 1)
    (h : w.ownsRow B 30 2 (.slice go n gc) n cs) (hv : w.heap[vb]? = some (.cells #[u, v] 30 (0, 0))) (hn : n ≤ 5000) (hB : B ≤ w.heap.size)
    (hK : ∀ co c w', w'.ownsRow B 30 2 (.slice co (n + 1) c) (n + 1) (cs ++ [u, v]) → w.grownBy w' (Value.slice go n gc).ownBlock → K (a.put o.dst (.slice co (n + 1) c)) w') : if Region.wanted o (yielded ops a.tmps) = true then Oper.wp Tryz.prog o a w K Q else E := by
  have hw : Region.wanted o (yielded ops a.tmps) = true := by simp [Region.wanted, hgd]
  rw [if_pos hw]
  obtain ⟨i0, hi, hz0, hz1, hz2⟩ := info_parts infoA
  obtain ⟨x0, x1, _, _⟩ := box2 hv
  refine wp_append_own w s x 55 ho B 30 i0 (.agg #[.slice none 0 0, .slice none 0 0]) 2 48 Tryz.underlying55 hi hz0 hz1 hz2 (by simp [Value.cells]) (by decide) (.slice go n gc) n _ hs h ⟨vb, 0, none⟩ 1 1 [u, v] hx rfl
    (fun j q hq => ?_) (fun q hq => ?_) (by unfold maxLen; omega) (by omega) hB (fun v' w' ho' hg' _ => ?_)
  · rw [add_at, Nat.zero_add]
    match j with
    | 0 => cases hq; exact x0
    | 1 => cases hq; exact x1
    | j + 2 => simp at hq
  · simp at hq
    rcases hq with rfl | rfl
    · exact hu
    · exact hv'
  · rcases ho'.2 with ⟨e, h0⟩ | ⟨g, c, cur, e, _⟩
    · omega
    · subst e
      exact hK _ _ _ ho' hg'

end Go.Proofs.YtmepcenbaohcoaaGreat

namespace Go.Proofs.YtmepcenbaohcoaaGreat

open Go.RowKit

set_option linter.unusedVariables false

theorem Ft.app {e : TypeId} {W W' : World} {B : Nat} {o : Option Addr} {k c : Nat} {zs : List Int} (h : Ft e W B o k c zs) {B' : Nat} {go : Option Addr} {n gc : Nat} {cs : List Value} (hown : W.ownsRow B' 30 2 (.slice go n gc) n cs) (hg : W.grownBy W' (Value.slice go n gc).ownBlock) (hne : e ≠ 30) : Ft e W' B o k c zs := by
  rcases hown.2 with ⟨e1, _⟩ | ⟨g, c', cur, e1, _, hg', _⟩
  · cases e1; exact h.keep1 hg (fun b off _ e2 => by cases e2)
  · cases e1; exact h.kind hg hg' hne
theorem own_below {W W' : World} {B B' : Nat} {go : Option Addr} {n gc : Nat} {cs : List Value} (h : W.ownsRow B 30 2 (.slice go n gc) n cs) (hb : Below B' W W') (hB : W.heap.size ≤ B') : W'.ownsRow B 30 2 (.slice go n gc) n cs := by
  refine ⟨h.1, ?_⟩
  rcases h.2 with h0 | ⟨g, c, cur', e, hB2, hg, r⟩
  · exact .inl h0
  · exact .inr ⟨g, c, cur', e, hB2, by rw [hb.block g (Nat.lt_of_lt_of_le (Array.getElem?_eq_some_iff.1 hg).1 hB)]; exact hg, r⟩
end Go.Proofs.YtmepcenbaohcoaaGreat
