
/- Contracts: a joiner's common shape, and one array more. -/

import Derived.Test.YtjllmfahmlfljaaC10

namespace Go.Proofs.Ytjllmfahmlfljaa

open Go.RowKit

set_option linter.unusedVariables false

theorem com_same (a : List Int) : com a a = a := by
  refine ext_nth (by rw [com_len]; simp) (fun k hk => ?_)
  rw [com_len] at hk
  have hk' : k < a.length := by simpa using hk
  unfold com
  rw [nth_mk _ _ _ hk, ext_self (by simp)]
  simp
theorem cov_one {s : List Int} (h : mayF s = 0) : covE [s] = 0 ∧ covL [s] = s := by
  have e : covE [s] = 0 := by simp [covE, cE, errAt, cst, row, com_same, h]
  exact ⟨e, by unfold covL; rw [if_pos e]; simp [cst, row, com_same]⟩
theorem cov_two {c s : List Int} (hc : mayF c = 0) (h : mayF s = 0) : covE [c, s] = mayF (com c s) ∧ covL [c, s] = if mayF (com c s) = 0 then com c s else [] := by
  have e : covE [c, s] = mayF (com c s) := by simp [covE, cE, errAt, cst, row, com_same, h, hc]
  exact ⟨e, by unfold covL; rw [e]; simp [cst, row, com_same]⟩
/-- The common shape with one more. -/
def nxt (xs : Nat → List Int × List Int) (n : Nat) (s : List Int) : List Int := if n = 0 then s else com (cmn xs n) s

theorem rs_one {W : World} {so : Option Addr} {sn sc : Nat} {sh : List Int} (h : Rd W so sn sh) (hs : Sl so sn sc) : Rs (W.alloc (.cells #[.slice so sn sc] 22)) (some ⟨W.heap.size, 0, none⟩) 1 [sh] := by
  refine ⟨rfl, by omega, fun _ => ⟨W.heap.size, 0, rfl, by simp, fun k hk => ?_⟩⟩
  obtain rfl : k = 0 := by omega
  exact ⟨so, sn, sc, (cell_of_row _ _ 0 _ _ (0, 0) (allocNew W _)).trans rfl, h.below (box_below W _) (Nat.le_refl _), hs⟩
theorem rs_two {W : World} {so to : Option Addr} {sn sc tn tc : Nat} {sh th : List Int} (h : Rd W so sn sh) (hs : Sl so sn sc) (g : Rd W to tn th) (gs : Sl to tn tc) : Rs (W.alloc (.cells #[.slice so sn sc, .slice to tn tc] 22)) (some ⟨W.heap.size, 0, none⟩) 2 [sh, th] := by
  obtain ⟨x0, x1, _, _⟩ := box2 (allocNew W (.cells #[.slice so sn sc, .slice to tn tc] 22))
  refine ⟨rfl, by omega, fun _ => ⟨W.heap.size, 0, rfl, by simp, fun k hk => ?_⟩⟩
  rcases (by omega : k = 0 ∨ k = 1) with rfl | rfl
  · exact ⟨so, sn, sc, x0, h.below (box_below W _) (Nat.le_refl _), hs⟩
  · exact ⟨to, tn, tc, x1, g.below (box_below W _) (Nat.le_refl _), gs⟩

set_option maxHeartbeats 1000000 in
theorem coverJ_any {W : World} {B jb : Nat} {fo : Option Addr} {fn fc : Nat} {co : Option Addr} {cn cc : Nat} {go : Option Addr} {gc : Nat} {fs : List Int} {xs : Nat → List Int × List Int} {n : Nat} (h : Jn W B jb fo fn fc co cn cc go gc fs xs n) (so : Option Addr) (sn sc : Nat) (sh : List Int) (hr : Rd W so sn sh) (ss : Sl so sn sc) (h0 : mayF sh = 0) (hc : n ≠ 0 → mayF (cmn xs n) = 0) (hn : n ≤ 5000) :
    Calls Try.prog 57 #[.pointer (some ⟨jb, 0, none⟩), .slice so sn sc] W fun e w' => ∃ o k c, e = .returned (.tuple #[.slice o k c, .int .i64 (mayF (nxt xs n sh))]) ∧ Ft 3 w' W.heap.size o k c (if mayF (nxt xs n sh) = 0 then nxt xs n sh else []) ∧ Below W.heap.size W w' := by
  obtain ⟨x0, x1, x2, _, _, _⟩ := box3 h.box
  by_cases hn0 : n = 0
  · subst hn0
    have en : nxt xs 0 sh = sh := rfl
    rw [en, h0, if_pos rfl]
    have cv := cover_any (some ⟨W.heap.size, 0, none⟩) 1 1 [sh] _ (rs_one hr ss)
    rw [(cov_one h0).1, (cov_one h0).2] at cv
    have k := box_below W (.cells #[.slice so sn sc] 22)
    clear h0 en
    go_enter Try.func57, Try.ntmps57
    go_wp2_with (go_at_call 27; refine cv.mono ?_; rintro e w1 ⟨o, q, c, rfl, f1, h1⟩)
    go_ret2
    exact ⟨o, q, c, rfl, (Fr.ft f1).mono (by simp), k.trans (h1.mono (by simp))⟩
  · have en : nxt xs n sh = com (cmn xs n) sh := if_neg hn0
    rw [en]
    have cv := cover_any (some ⟨W.heap.size, 0, none⟩) 2 2 [cmn xs n, sh] _ (rs_two h.c.rd h.c.sl hr ss)
    have e2 := cov_two (hc hn0) h0
    rw [e2.1, e2.2] at cv
    have k := box_below W (.cells #[.slice co cn cc, .slice so sn sc] 22)
    have t1 : ((n : Int) == 0) = false := by simp; omega
    clear h0 en e2 hc hn0
    generalize (if mayF (com (cmn xs n) sh) = 0 then com (cmn xs n) sh else []) = R at cv ⊢
    go_enter Try.func57, Try.ntmps57
    go_wp2_with (go_at_call 27; refine cv.mono ?_; rintro e w1 ⟨o, q, c, rfl, f1, h1⟩)
    go_ret2
    exact ⟨o, q, c, rfl, (Fr.ft f1).mono (by simp), k.trans (h1.mono (by simp))⟩
end Go.Proofs.Ytjllmfahmlfljaa
