
/- Contracts of package seek: the finder. -/

import Derived.Test.YtmepcenbaohcoaaGreatYH

import Derived.Lib.JoinLaws

namespace Go.Proofs.YtmepcenbaohcoaaGreat

open Go.RowKit

set_option linter.unusedVariables false

/-- A finder of n items. -/
structure Fnd (V : World) (io : Option Addr) (n ic : Nat) (po : Option Addr) (pc : Nat) (xs : Nat → List Int × List Int) : Prop where
  n4 : n ≤ 4096
  itm : AsQ V io n xs
  pl : ∃ ps, Rd V po n ps ∧ Pls (cUp xs) n ps
theorem Fnd.below {V V' : World} {B : Nat} {io : Option Addr} {n ic : Nat} {po : Option Addr} {pc : Nat} {xs : Nat → List Int × List Int} (h : Fnd V io n ic po pc xs) (hb : Below B V V') (hB : V.heap.size ≤ B) : Fnd V' io n ic po pc xs := by
  obtain ⟨ps, h1, h2⟩ := h.pl
  exact ⟨h.n4, h.itm.below hb hB, ps, h1.below hb hB, h2⟩

set_option maxHeartbeats 1000000 in
theorem first_any (io : Option Addr) (n ic : Nat) (po : Option Addr) (pc : Nat) (xs : Nat → List Int × List Int) (so ao : Option Addr) (sn sc an ac : Nat) (s a : List Int) (w : World) (h : Fnd w io n ic po pc xs) (hs : Rd w so sn s) (ha : Rd w ao an a) :
    Calls Tryz.prog 61 #[.agg #[.slice io n ic, .slice po n pc], .agg #[.slice so sn sc, .slice ao an ac]] w fun e w' => e = .returned (.int .i64 ((fsq xs n (s, a) : Nat) : Int)) ∧ Below w.heap.size w w' := by
  obtain ⟨ps, hp, P⟩ := h.pl
  have hn4 := h.n4
  have k1 := box_below w (.cells #[.slice io n ic, .slice po n pc] 78)
  have b1 := allocNew w (.cells #[.slice io n ic, .slice po n pc] 78)
  have k2 := box_below (w.alloc (.cells #[.slice io n ic, .slice po n pc] 78)) (.cells #[.slice so sn sc, .slice ao an ac] 30)
  have kk := k1.trans (k2.mono (by simp))
  have hbx := (k2.block w.heap.size (by simp)).trans b1
  have hbs := bsearch_any io n ic xs po pc ps so ao sn sc an ac s a w.heap.size _ hbx (h.itm.below kk (Nat.le_refl _)) (hs.below kk (Nat.le_refl _)) (ha.below kk (Nat.le_refl _)) (hp.below kk (Nat.le_refl _)) P hn4
  have hle := fsq_le xs n (s, a)
  have HI : Hid (inN n ps) := P.inn
  have HL : Hid (ps.length = n) := P.len
  clear P k1 b1
  generalize fsq xs n (s, a) = r at *
  by_cases hr : r < n
  · have hbs' := hbs.mono (R' := fun e w' => ∃ (i : Nat), e = .returned (.tuple #[.int .i64 (i : Nat), .bool true]) ∧ i < n ∧ nth ps i = (r : Nat) ∧ Below ((w.alloc (.cells #[.slice io n ic, .slice po n pc] 78)).alloc (.cells #[.slice so sn sc, .slice ao an ac] 30)).heap.size ((w.alloc (.cells #[.slice io n ic, .slice po n pc] 78)).alloc (.cells #[.slice so sn sc, .slice ao an ac] 30)) w') (by
      rintro e w' ⟨i, f, rfl, h1, h2, hb⟩
      cases f
      · have := h2 rfl; omega
      · exact ⟨i, rfl, (h1 rfl).1, (h1 rfl).2, hb⟩)
    clear hbs
    obtain ⟨b, off, rfl, hb, hc⟩ := hp.cells (by omega)
    go_enter Tryz.func61, Tryz.ntmps61
    go_wp2_with fail
    refine hbs'.mono ?_
    rintro e w2 ⟨i, rfl, hin, hpi, b2⟩
    have cc := ((kk.trans (b2.mono kk.size)).cell (p := ⟨b, off + i, none⟩) hb).trans (hc i hin)
    rw [hpi] at cc
    have bi : (i : Int) < (n : Int) := by omega
    obtain ⟨q0, q1, _, _⟩ := box2 ((b2.block w.heap.size (by simp; omega)).trans hbx)
    clear hpi
    go_wp2
    go_ret
    exact ⟨rfl, kk.trans (b2.mono kk.size)⟩
  · have hbs' := hbs.mono (R' := fun e w' => ∃ (i : Nat), e = .returned (.tuple #[.int .i64 (i : Nat), .bool false]) ∧ Below ((w.alloc (.cells #[.slice io n ic, .slice po n pc] 78)).alloc (.cells #[.slice so sn sc, .slice ao an ac] 30)).heap.size ((w.alloc (.cells #[.slice io n ic, .slice po n pc] 78)).alloc (.cells #[.slice so sn sc, .slice ao an ac] 30)) w') (by
      rintro e w' ⟨i, f, rfl, h1, h2, hb⟩
      cases f
      · exact ⟨i, rfl, hb⟩
      · obtain ⟨h3, h4⟩ := h1 rfl
        have := HI.out i (by rw [HL.out]; exact h3)
        rw [h4] at this
        omega)
    obtain rfl : r = n := by omega
    clear hbs
    go_enter Tryz.func61, Tryz.ntmps61
    go_wp2_with (first | (go_at_call 84; (with_reducible refine hbs'.mono ?_); rintro e w2 ⟨i, rfl, b2⟩; obtain ⟨q0, q1, _, _⟩ := box2 ((b2.block w.heap.size (by simp; omega)).trans hbx)))
    go_ret
    exact ⟨rfl, kk.trans (b2.mono kk.size)⟩

set_option maxHeartbeats 1000000 in
theorem has_any (io : Option Addr) (n ic : Nat) (po : Option Addr) (pc : Nat) (xs : Nat → List Int × List Int) (so ao : Option Addr) (sn sc an ac : Nat) (s a : List Int) (w : World) (h : Fnd w io n ic po pc xs) (hs : Rd w so sn s) (ha : Rd w ao an a) :
    Calls Tryz.prog 64 #[.agg #[.slice io n ic, .slice po n pc], .agg #[.slice so sn sc, .slice ao an ac]] w fun e w' => e = .returned (.bool (decide (fsq xs n (s, a) < n))) ∧ Below w.heap.size w w' := by
  have hn4 := h.n4
  have k1 := box_below w (.cells #[.slice io n ic, .slice po n pc] 78)
  have b1 := allocNew w (.cells #[.slice io n ic, .slice po n pc] 78)
  have k2 := box_below (w.alloc (.cells #[.slice io n ic, .slice po n pc] 78)) (.cells #[.slice so sn sc, .slice ao an ac] 30)
  have b2 := allocNew (w.alloc (.cells #[.slice io n ic, .slice po n pc] 78)) (.cells #[.slice so sn sc, .slice ao an ac] 30)
  rw [World.size_alloc] at b2
  have kk := k1.trans (k2.mono (by simp))
  have hbx := (k2.block w.heap.size (by simp)).trans b1
  have al : ∀ U, Below (w.heap.size + 1 + 1) ((w.alloc (.cells #[.slice io n ic, .slice po n pc] 78)).alloc (.cells #[.slice so sn sc, .slice ao an ac] 30)) U → U.cell? ⟨w.heap.size, 0, none⟩ = some (.slice io n ic) ∧ U.cell? ⟨w.heap.size, 1, none⟩ = some (.slice po n pc) ∧ U.cell? ⟨w.heap.size + 1, 0, none⟩ = some (.slice so sn sc) ∧ U.cell? ⟨w.heap.size + 1, 1, none⟩ = some (.slice ao an ac) ∧ Below (w.heap.size + 1 + 1) ((w.alloc (.cells #[.slice io n ic, .slice po n pc] 78)).alloc (.cells #[.slice so sn sc, .slice ao an ac] 30)) U := fun U hU => by
    obtain ⟨x0, x1, _, _⟩ := box2 ((hU.block w.heap.size (by omega)).trans hbx)
    obtain ⟨y0, y1, _, _⟩ := box2 ((hU.block (w.heap.size + 1) (by omega)).trans b2)
    exact ⟨x0, x1, y0, y1, hU⟩
  have hf : ∀ U, Below (w.heap.size + 1 + 1) ((w.alloc (.cells #[.slice io n ic, .slice po n pc] 78)).alloc (.cells #[.slice so sn sc, .slice ao an ac] 30)) U → Calls Tryz.prog 61 #[.agg #[.slice io n ic, .slice po n pc], .agg #[.slice so sn sc, .slice ao an ac]] U fun e w' => e = .returned (.int .i64 ((fsq xs n (s, a) : Nat) : Int)) ∧ Below (w.heap.size + 1 + 1) ((w.alloc (.cells #[.slice io n ic, .slice po n pc] 78)).alloc (.cells #[.slice so sn sc, .slice ao an ac] 30)) w' := fun U hU => by
    have hW := kk.trans (hU.mono (by omega))
    exact (first_any io n ic po pc xs so ao sn sc an ac s a U (h.below hW (Nat.le_refl _)) (hs.below hW (Nat.le_refl _)) (ha.below hW (Nat.le_refl _))).mono fun e w' ⟨e1, e2⟩ => ⟨e1, hU.trans (e2.mono (by have := hU.size; simp at this; omega))⟩
  have hrf : Below (w.heap.size + 1 + 1) ((w.alloc (.cells #[.slice io n ic, .slice po n pc] 78)).alloc (.cells #[.slice so sn sc, .slice ao an ac] 30)) ((w.alloc (.cells #[.slice io n ic, .slice po n pc] 78)).alloc (.cells #[.slice so sn sc, .slice ao an ac] 30)) := Below.refl _ _
  generalize fsq xs n (s, a) = r at *
  have hdec : decide ((r : Int) < (n : Int)) = decide (r < n) := by simp
  clear h hs ha k1 b1 k2 b2 hbx
  go_enter Tryz.func64, Tryz.ntmps64
  go_wp2
  go_region_held3 (fun U => U.cell? ⟨w.heap.size, 0, none⟩ = some (.slice io n ic) ∧ U.cell? ⟨w.heap.size, 1, none⟩ = some (.slice po n pc) ∧ U.cell? ⟨w.heap.size + 1, 0, none⟩ = some (.slice so sn sc) ∧ U.cell? ⟨w.heap.size + 1, 1, none⟩ = some (.slice ao an ac) ∧ Below (w.heap.size + 1 + 1) ((w.alloc (.cells #[.slice io n ic, .slice po n pc] 78)).alloc (.cells #[.slice so sn sc, .slice ao an ac] 30)) U) (first | exact al _ (by assumption) | exact al _ hrf.drew | exact al _ hrf)
    (first
      | (go_at_call 61; (with_reducible refine (hf _ (‹_ ∧ _ ∧ _ ∧ _ ∧ Below (w.heap.size + 1 + 1) _ _›).2.2.2.2).mono ?_); rintro e w5 ⟨rfl, b5⟩))
  go_wp2
  go_ret
  exact ⟨rfl, kk.trans (b5.mono (by omega))⟩

set_option maxHeartbeats 1000000 in
theorem finderOf_any (so ao : Option Addr) (sn sc an ac : Nat) (sh at' : List Int) (w : World) (h : Rd w so sn sh) (hs : Sl so sn sc) (g : Rd w ao an at') (gs : Sl ao an ac) (h0 : mayA sh at' = 0) :
    Calls Tryz.prog 58 #[.agg #[.slice so sn sc, .slice ao an ac]] w fun e w' => ∃ io po pc, e = .returned (.agg #[.slice io (itN sh) (itN sh), .slice po (itN sh) pc]) ∧ Fnd w' io (itN sh) (itN sh) po pc (itX sh at') ∧ Below w.heap.size w w' := by
  have k1 := box_below w (.cells #[.slice so sn sc, .slice ao an ac] 30)
  have b1 := allocNew w (.cells #[.slice so sn sc, .slice ao an ac] 30)
  have k2 := box_below (w.alloc (.cells #[.slice so sn sc, .slice ao an ac] 30)) (.cells #[.slice none 0 0, .slice none 0 0] 78)
  have b2 := allocNew (w.alloc (.cells #[.slice so sn sc, .slice ao an ac] 30)) (.cells #[.slice none 0 0, .slice none 0 0] 78)
  rw [World.size_alloc] at b2
  have kk := k1.trans (k2.mono (by simp))
  have hit := itemsOf_any so ao sn sc an ac sh at' w _ kk h hs g gs h0
  obtain ⟨q0, q1, _, _⟩ := box2 ((k2.block w.heap.size (by simp)).trans b1)
  have hsz : ((w.alloc (.cells #[.slice so sn sc, .slice ao an ac] 30)).alloc (.cells #[.slice none 0 0, .slice none 0 0] 78)).heap.size = w.heap.size + 1 + 1 := by simp
  generalize itN sh = n at *
  generalize itX sh at' = xs at *
  clear k1 k2 b1
  go_enter Tryz.func58, Tryz.ntmps58
  go_wp2_with (first
    | (go_at_call 71; (with_reducible refine hit.mono ?_); rintro e w1 ⟨gg, rfl, lg, lb, C1⟩)
    | (go_at_call 70; (with_reducible refine (rising_any _ _ _ _ w1 C1.as C1.n4).mono ?_); rintro e w2 ⟨g2, ps, rfl, f2, p2, h2⟩; have B2 := lb.trans (h2.mono lb.size); have hw1 := lb.size; have hw2 := B2.size; rw [hsz] at B2 hw2 hw1 lg; have bb := (B2.block (w.heap.size + 1) (by omega)).trans b2; obtain ⟨r0, r1, r2, r3⟩ := box2 bb))
  (try simp only [Exit.inBlock, Exit.then])
  refine bodyPost_ret (v := .agg #[.slice (some ⟨gg, 0, none⟩) n n, .slice (some ⟨g2, 0, none⟩) n n]) (by simp [results, Tryz.results58]; go_simp) rfl ?_
  have ks := set2 w2 (w.heap.size + 1) 0 1 (.slice (some ⟨gg, 0, none⟩) n n) (.slice (some ⟨g2, 0, none⟩) n n)
  have C2 := C1.below h2
  have bs := below_set2 (a := w) (b := w.heap.size + 1) 0 1 (.slice (some ⟨gg, 0, none⟩) n n) (.slice (some ⟨g2, 0, none⟩) n n) (kk.trans (B2.mono (by omega))) (by omega) (Nat.le_refl _)
  have a2 := f2.at
  refine ⟨_, _, _, rfl, ⟨C2.n4, (C2.keep bs (ks.block _ C2.lt (fun e => by injection e with e; omega))).as, ps, (f2.keep1 ks (fun b off e => ?_)).rd, p2⟩, bs⟩
  have := (a2 b off e).1; intro e'; cases e'; omega

/-- For each item the place of the first one that is the same. -/
def fsL (xs : Nat → List Int × List Int) (n : Nat) : List Int := (List.range n).map fun k => ((fsq xs n (xs k) : Nat) : Int)
theorem fsL_len (xs : Nat → List Int × List Int) (n : Nat) : (fsL xs n).length = n := by simp [fsL]
theorem fsL_nth {xs : Nat → List Int × List Int} {n k : Nat} (h : k < n) : nth (fsL xs n) k = ((fsq xs n (xs k) : Nat) : Int) := by
  rw [nth_lt (by rw [fsL_len]; exact h)]
  simp [fsL]

set_option maxHeartbeats 2000000 in
theorem firsts_any (io : Option Addr) (n ic : Nat) (po : Option Addr) (pc : Nat) (xs : Nat → List Int × List Int) (w : World) (h : Fnd w io n ic po pc xs) :
    Calls Tryz.prog 67 #[.agg #[.slice io n ic, .slice po n pc]] w fun e w' => ∃ g, e = .returned (.slice (some ⟨g, 0, none⟩) n n) ∧ Ft 3 w' w.heap.size (some ⟨g, 0, none⟩) n n (fsL xs n) ∧ Below w.heap.size w w' := by
  have hn4 := h.n4
  have k1 := box_below w (.cells #[.slice io n ic, .slice po n pc] 78)
  have b1 := allocNew w (.cells #[.slice io n ic, .slice po n pc] 78)
  have hsz : (w.alloc (.cells #[.slice io n ic, .slice po n pc] 78)).heap.size = w.heap.size + 1 := by simp
  have h1 := h.below k1 (Nat.le_refl _)
  have hmk := fun (X : World) => run_make_row' (P := Tryz.prog) 25 3 (.int .i64 0) 8 Tryz.underlying25 infoIQ rfl .i64 .i64 n (by omega) (by omega) X
  have R0 := Ro.made (w.alloc (.cells #[.slice io n ic, .slice po n pc] 78)) n (by omega)
  rw [hsz] at R0
  obtain ⟨q0, q1, _, _⟩ := box2 ((box_below (w.alloc (.cells #[.slice io n ic, .slice po n pc] 78)) (.cells (madeCells #[.int .i64 0] n) 3)).block w.heap.size (by simp) |>.trans b1)
  go_enter Tryz.func67, Tryz.ntmps67
  go_wp2
  generalize w.alloc (.cells #[.slice io n ic, .slice po n pc] 78) = U at *
  clear hmk q0 q1
  go_loopw [13] (fun i V => ∃ (k : Nat) (zs : List Int), k ≤ n ∧ i = .int .i64 (k : Nat) ∧ Ro (w.heap.size + 1) n U V zs ∧ ∀ j, j < k → nth zs j = nth (fsL xs n) j) (fun i _ => n - (intOf i).toNat)
  case atStart => exact ⟨0, _, Nat.zero_le _, rfl, R0, fun j hj => by omega⟩
  case round =>
    obtain ⟨k, zs, hk, rfl, R, Z⟩ := hrel
    clear R0
    by_cases hlt : k < n
    · have t1 : decide ((k : Int) < (n : Int)) = true := by simp; omega
      have bk : (k : Int) < (n : Int) := by omega
      have wk := wrY (z := (k : Int) + 1) (by omega) (by omega)
      have hV := h1.below R.bel (by rw [hsz]; exact Nat.le_refl _)
      obtain ⟨b, off, rfl, hb, hc⟩ := hV.itm.cells (by omega)
      obtain ⟨so, sn, sc, uo, tn, tc, a1, a2, a3, a4, a5, a6⟩ := hc k hlt
      obtain ⟨p0, p1, _, _⟩ := box2 ((R.bel.block w.heap.size (by omega)).trans b1)
      have ka := box_below wr (.cells #[.slice so sn sc, .slice uo tn tc] 30)
      have RA := R.below ka
      have hcal := first_any _ n ic po pc xs so uo sn sc tn tc _ _ _ (hV.below ka (Nat.le_refl _)) (a3.below ka (Nat.le_refl _)) (a5.below ka (Nat.le_refl _))
      have hle := fsq_le xs n ((xs k).1, (xs k).2)
      obtain ⟨p0', p1', _, _⟩ := box2 ((RA.bel.block w.heap.size (by omega)).trans b1)
      have HZ : Hid (nth (fsL xs n) k = ((fsq xs n ((xs k).1, (xs k).2) : Nat) : Int)) := fsL_nth hlt
      generalize fsq xs n ((xs k).1, (xs k).2) = r at *
      clear hc a3 a4 a5 a6 hV
      go_wp2_with (first | (go_at_call 61; (with_reducible refine hcal.mono ?_); rintro e w5 ⟨rfl, b5⟩; have R5 := RA.below b5; obtain ⟨c1, f1⟩ := R5.slot hlt; have R6 := R5.set hlt (r : Int) (by omega) (by omega)))
      go_roundw
      case rel => exact ⟨k + 1, _, by omega, by go_num, R6, fun j hj => by
        rw [nth_setY (by rw [R.len]; exact hlt)]
        split
        · rename_i e; rw [e, HZ.out]
        · exact Z j (by omega)⟩
      case measure => simp [intOf]; omega
    · obtain rfl : k = n := by omega
      have t1 : decide ((k : Int) < (k : Int)) = false := by simp
      go_wp2
      go_ret
      have e : zs = fsL xs k := ext_nth (by rw [R.len, fsL_len]) (fun j hj => by rw [R.len] at hj; exact Z j hj)
      subst e
      exact ⟨w.heap.size + 1, rfl, R.row.mono (by omega), k1.trans (R.bel.mono (by omega))⟩

theorem truth_any (b : Bool) (w : World) : Calls Tryz.prog 63 #[.bool b] w fun e w' => e = .returned (.int .i64 (if b then 1 else 0)) ∧ w' = w := by
  cases b
  · go_enter Tryz.func63, Tryz.ntmps63
    go_wp2
    go_ret
    exact ⟨rfl, rfl⟩
  · go_enter Tryz.func63, Tryz.ntmps63
    go_wp2
    go_ret
    exact ⟨rfl, rfl⟩
end Go.Proofs.YtmepcenbaohcoaaGreat
