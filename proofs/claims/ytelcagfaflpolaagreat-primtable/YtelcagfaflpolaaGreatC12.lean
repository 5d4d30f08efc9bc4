
/- Contract: one array more is given to a joiner. -/

import Derived.Test.YtelcagfaflpolaaGreatC10

namespace Go.Proofs.YtelcagfaflpolaaGreat

open Go.RowKit

set_option linter.unusedVariables false

theorem com_same (a : List Int) : com a a = a := by
  refine ext_nth (by rw [com_len]; simp) (fun k hk => ?_)
  rw [com_len] at hk
  have hk' : k < a.length := by simpa using hk
  unfold com
  rw [nth_mk _ _ _ hk, ext_self (by simp)]
  simp
theorem cov_one {s : List Int} (h : mayF s = 0) : covE [s] = 0 ∧ covL [s] = s := by
  have e : covE [s] = 0 := by simp [covE, cE, errAt, cst, row, com_same, h]
  exact ⟨e, by unfold covL; rw [if_pos e]; simp [cst, row, com_same]⟩
theorem cov_two {c s : List Int} (hc : mayF c = 0) (h : mayF s = 0) : covE [c, s] = mayF (com c s) ∧ covL [c, s] = if mayF (com c s) = 0 then com c s else [] := by
  have e : covE [c, s] = mayF (com c s) := by simp [covE, cE, errAt, cst, row, com_same, h, hc]
  exact ⟨e, by unfold covL; rw [e]; simp [cst, row, com_same]⟩
/-- The common shape with one more. -/
def nxt (xs : Nat → List Int × List Int) (n : Nat) (s : List Int) : List Int := if n = 0 then s else com (cmn xs n) s

theorem rs_one {W : World} {so : Option Addr} {sn sc : Nat} {sh : List Int} (h : Rd W so sn sh) (hs : Sl so sn sc) : Rs (W.alloc (.cells #[.slice so sn sc] 33)) (some ⟨W.heap.size, 0, none⟩) 1 [sh] := by
  refine ⟨rfl, by omega, fun _ => ⟨W.heap.size, 0, rfl, by simp, fun k hk => ?_⟩⟩
  obtain rfl : k = 0 := by omega
  exact ⟨so, sn, sc, (cell_of_row _ _ 0 _ _ (0, 0) (allocNew W _)).trans rfl, h.below (box_below W _) (Nat.le_refl _), hs⟩
theorem rs_two {W : World} {so to : Option Addr} {sn sc tn tc : Nat} {sh th : List Int} (h : Rd W so sn sh) (hs : Sl so sn sc) (g : Rd W to tn th) (gs : Sl to tn tc) : Rs (W.alloc (.cells #[.slice so sn sc, .slice to tn tc] 33)) (some ⟨W.heap.size, 0, none⟩) 2 [sh, th] := by
  obtain ⟨x0, x1, _, _⟩ := box2 (allocNew W (.cells #[.slice so sn sc, .slice to tn tc] 33))
  refine ⟨rfl, by omega, fun _ => ⟨W.heap.size, 0, rfl, by simp, fun k hk => ?_⟩⟩
  rcases (by omega : k = 0 ∨ k = 1) with rfl | rfl
  · exact ⟨so, sn, sc, x0, h.below (box_below W _) (Nat.le_refl _), hs⟩
  · exact ⟨to, tn, tc, x1, g.below (box_below W _) (Nat.le_refl _), gs⟩

set_option maxHeartbeats 1000000 in
theorem coverJ_any {W : World} {B jb : Nat} {fo : Option Addr} {fn fc : Nat} {co : Option Addr} {cn cc : Nat} {go : Option Addr} {gc : Nat} {fs : List Int} {xs : Nat → List Int × List Int} {n : Nat} (h : Jn W B jb fo fn fc co cn cc go gc fs xs n) (so : Option Addr) (sn sc : Nat) (sh : List Int) (hr : Rd W so sn sh) (ss : Sl so sn sc) (h0 : mayF sh = 0) (hc : n ≠ 0 → mayF (cmn xs n) = 0) (hn : n ≤ 5000) :
    Calls Tryz.prog 39 #[.pointer (some ⟨jb, 0, none⟩), .slice so sn sc] W fun e w' => ∃ o k c, e = .returned (.tuple #[.slice o k c, .int .i64 (mayF (nxt xs n sh))]) ∧ Ft 3 w' W.heap.size o k c (if mayF (nxt xs n sh) = 0 then nxt xs n sh else []) ∧ Below W.heap.size W w' := by
  obtain ⟨x0, x1, x2, _, _, _⟩ := box3 h.box
  by_cases hn0 : n = 0
  · subst hn0
    have en : nxt xs 0 sh = sh := rfl
    rw [en, h0, if_pos rfl]
    have cv := cover_any (some ⟨W.heap.size, 0, none⟩) 1 1 [sh] _ (rs_one hr ss)
    rw [(cov_one h0).1, (cov_one h0).2] at cv
    have k := box_below W (.cells #[.slice so sn sc] 33)
    clear h0 en
    go_enter Tryz.func39, Tryz.ntmps39
    go_wp2_with (go_at_call 59; refine cv.mono ?_; rintro e w1 ⟨o, q, c, rfl, f1, h1⟩)
    go_ret2
    exact ⟨o, q, c, rfl, (Fr.ft f1).mono (by simp), k.trans (h1.mono (by simp))⟩
  · have en : nxt xs n sh = com (cmn xs n) sh := if_neg hn0
    rw [en]
    have cv := cover_any (some ⟨W.heap.size, 0, none⟩) 2 2 [cmn xs n, sh] _ (rs_two h.c.rd h.c.sl hr ss)
    have e2 := cov_two (hc hn0) h0
    rw [e2.1, e2.2] at cv
    have k := box_below W (.cells #[.slice co cn cc, .slice so sn sc] 33)
    have t1 : ((n : Int) == 0) = false := by simp; omega
    clear h0 en e2 hc hn0
    generalize (if mayF (com (cmn xs n) sh) = 0 then com (cmn xs n) sh else []) = R at cv ⊢
    go_enter Tryz.func39, Tryz.ntmps39
    go_wp2_with (go_at_call 59; refine cv.mono ?_; rintro e w1 ⟨o, q, c, rfl, f1, h1⟩)
    go_ret2
    exact ⟨o, q, c, rfl, (Fr.ft f1).mono (by simp), k.trans (h1.mono (by simp))⟩
end Go.Proofs.YtelcagfaflpolaaGreat


namespace Go.Proofs.YtelcagfaflpolaaGreat

open Go.RowKit

set_option linter.unusedVariables false

/-- A row of arrays, one array more. -/
theorem step_joinA {w : World} {ops : Array Oper} {o : Oper} {a : Act} {K : Act → World → Prop} {Q : Exit → Act → World → Prop} {E : Prop} (hgd : o.guard = none) (s x : Operand)
    (ho : o.op = .call { callee := .builtin .append, args := #[s, x], argTypes := #[38, 38] }) (B vb : Nat) (go : Option Addr) (n gc : Nat) (cs : List Value) (u v : Value) (hu : u.oneCell' = true) (hv' : v.oneCell' = true) (hs : a.eval s = .slice go n gc) (hx : a.eval x = .slice (some ⟨vb, 0, none⟩) 1 1)
    (h : w.ownsRow B 36 2 (.slice go n gc) n cs) (hv : w.heap[vb]? = some (.cells #[u, v] 36 (0, 0))) (hn : n ≤ 5000) (hB : B ≤ w.heap.size)
    (hK : ∀ co c w', w'.ownsRow B 36 2 (.slice co (n + 1) c) (n + 1) (cs ++ [u, v]) → w.grownBy w' (Value.slice go n gc).ownBlock → K (a.put o.dst (.slice co (n + 1) c)) w') : if Region.wanted o (yielded ops a.tmps) = true then Oper.wp Tryz.prog o a w K Q else E := by
  have hw : Region.wanted o (yielded ops a.tmps) = true := by simp [Region.wanted, hgd]
  rw [if_pos hw]
  obtain ⟨i0, hi, hz0, hz1, hz2⟩ := info_parts infoA
  obtain ⟨x0, x1, _, _⟩ := box2 hv
  refine wp_append_own w s x 38 ho B 36 i0 (.agg #[.slice none 0 0, .slice none 0 0]) 2 48 Tryz.underlying38 hi hz0 hz1 hz2 (by simp [Value.cells]) (by decide) (.slice go n gc) n _ hs h ⟨vb, 0, none⟩ 1 1 [u, v] hx rfl
    (fun j q hq => ?_) (fun q hq => ?_) (by unfold maxLen; omega) (by omega) hB (fun v' w' ho' hg' _ => ?_)
  · rw [add_at, Nat.zero_add]
    match j with
    | 0 => cases hq; exact x0
    | 1 => cases hq; exact x1
    | j + 2 => simp at hq
  · simp at hq
    rcases hq with rfl | rfl
    · exact hu
    · exact hv'
  · rcases ho'.2 with ⟨e, h0⟩ | ⟨g, c, cur, e, _⟩
    · omega
    · subst e
      exact hK _ _ _ ho' hg'

def addE (fs : List Int) (xs : Nat → List Int × List Int) (n : Nat) (sh at' : List Int) : Int :=
  if (n : Int) = pr fs then 4 else if mayA sh at' ≠ 0 then 1 else if mayF (nxt xs n sh) ≠ 0 ∨ mayF (fs ++ nxt xs n sh) ≠ 0 then 17 else 0

/-- A joiner, and an array in a box beside it. -/
structure Ja (w V : World) (B jb bx : Nat) (fo : Option Addr) (fn fc : Nat) (co : Option Addr) (cn cc : Nat) (go : Option Addr) (gc : Nat) (so : Option Addr) (sn sc : Nat) (ao : Option Addr) (an ac : Nat) (fs : List Int) (xs : Nat → List Int × List Int) (n : Nat) (sh at' : List Int) : Prop where
  j : Jn V B jb fo fn fc co cn cc go gc fs xs n
  c0 : V.cell? ⟨bx, 0, none⟩ = some (.slice so sn sc)
  c1 : V.cell? ⟨bx, 1, none⟩ = some (.slice ao an ac)
  s : Rd V so sn sh
  a : Rd V ao an at'
  bel : Below w.heap.size w V
theorem Ja.below {w V V' : World} {B jb bx : Nat} {fo : Option Addr} {fn fc : Nat} {co : Option Addr} {cn cc : Nat} {go : Option Addr} {gc : Nat} {so : Option Addr} {sn sc : Nat} {ao : Option Addr} {an ac : Nat} {fs : List Int} {xs : Nat → List Int × List Int} {n : Nat} {sh at' : List Int}
    (h : Ja w V B jb bx fo fn fc co cn cc go gc so sn sc ao an ac fs xs n sh at') (k : Below V.heap.size V V') : Ja w V' B jb bx fo fn fc co cn cc go gc so sn sc ao an ac fs xs n sh at' := by
  have l0 := World.block_lt_of_cell? V _ h.c0
  exact ⟨h.j.below k (Nat.le_refl _), (k.cell (p := ⟨bx, 0, none⟩) l0).trans h.c0, (k.cell (p := ⟨bx, 1, none⟩) l0).trans h.c1, h.s.below k (Nat.le_refl _), h.a.below k (Nat.le_refl _), h.bel.trans (k.mono h.bel.size)⟩
theorem ja_start {w : World} {B jb : Nat} {fo : Option Addr} {fn fc : Nat} {co : Option Addr} {cn cc : Nat} {go : Option Addr} {gc : Nat} {so : Option Addr} {sn sc : Nat} {ao : Option Addr} {an ac : Nat} {fs : List Int} {xs : Nat → List Int × List Int} {n : Nat} {sh at' : List Int}
    (h : Jn w B jb fo fn fc co cn cc go gc fs xs n) (hs : Rd w so sn sh) (ha : Rd w ao an at') : Ja w (w.alloc (.cells #[.slice so sn sc, .slice ao an ac] 36)) B jb w.heap.size fo fn fc co cn cc go gc so sn sc ao an ac fs xs n sh at' := by
  have k := box_below w (.cells #[.slice so sn sc, .slice ao an ac] 36)
  obtain ⟨x0, x1, _, _⟩ := box2 (allocNew w (.cells #[.slice so sn sc, .slice ao an ac] 36))
  exact ⟨h.below k (Nat.le_refl _), x0, x1, hs.below k (Nat.le_refl _), ha.below k (Nat.le_refl _), k⟩

set_option maxHeartbeats 4000000 in
set_option maxRecDepth 20000 in
theorem add_bad {w : World} {B jb : Nat} {fo : Option Addr} {fn fc : Nat} {co : Option Addr} {cn cc : Nat} {go : Option Addr} {gc : Nat} {fs : List Int} {xs : Nat → List Int × List Int} {n : Nat} (h : Jn w B jb fo fn fc co cn cc go gc fs xs n) (so ao : Option Addr) (sn sc an ac : Nat) (sh at' : List Int) (hs : Rd w so sn sh) (ss : Sl so sn sc) (ha : Rd w ao an at') (m0 : mayF fs = 0) (hc : n ≠ 0 → mayF (cmn xs n) = 0) (hn : n ≤ 5000) (hb : addE fs xs n sh at' ≠ 0) :
    Calls Tryz.prog 17 #[.pointer (some ⟨jb, 0, none⟩), .agg #[.slice so sn sc, .slice ao an ac]] w fun e w' => e = .returned (.int .i64 (addE fs xs n sh at')) ∧ Below w.heap.size w w' := by
  have J0 := ja_start (so := so) (sn := sn) (sc := sc) (ao := ao) (an := an) (ac := ac) h hs ha
  have pb := prF_bd m0
  have hma := fun V (x : Rd V so sn sh) (y : Rd V ao an at') => mayA_any so ao sn sc an ac sh at' V x y
  obtain ⟨x0, x1, x2, _, _, _⟩ := box3 J0.j.box
  have hfn : fn ≤ 8 := by rw [← h.f.rd.len]; exact (mayF_zero m0).2.1
  by_cases e4 : (n : Int) = pr fs
  · have ea : addE fs xs n sh at' = 4 := if_pos e4
    rw [ea]
    clear hb ea
    go_enter Tryz.func17, Tryz.ntmps17
    go_wp2
    go_quiet (exact Calls.quiet_of_same (places_any (J0.j.below (below_drewN (Below.refl _ _) _) (Nat.le_refl _)) m0))
    have J1 := J0.below (below_drewN (Below.refl _ _) nq)
    obtain ⟨y0, y1, y2, u0, u1, u2⟩ := box3 J1.j.box
    have z0 := J1.c0
    have z1 := J1.c1
    generalize (w.alloc (.cells #[.slice so sn sc, .slice ao an ac] 36)).drewN nq = W1 at *
    clear x0 x1 x2 J0
    go_wp2
    go_ret
    exact ⟨rfl, J1.bel⟩
  · by_cases e1 : mayA sh at' = 0
    · obtain ⟨m1, _⟩ := mayA_zero e1
      have hne : ((n : Int) == pr fs) = false := by simpa using e4
      by_cases e2 : mayF (nxt xs n sh) = 0
      · have e3 : mayF (fs ++ nxt xs n sh) ≠ 0 := fun e => hb (by unfold addE; rw [if_neg e4, if_neg (by omega), if_neg (by omega)])
        have ea : addE fs xs n sh at' = 17 := by unfold addE; rw [if_neg e4, if_neg (by omega), if_pos (.inr e3)]
        have t3 : (mayF (fs ++ nxt xs n sh) != 0) = true := by simpa using e3
        have lx : (nxt xs n sh).length ≤ 8 := (mayF_zero e2).2.1
        have cj := fun V (x : Jn V B jb fo fn fc co cn cc go gc fs xs n) (y : Rd V so sn sh) => coverJ_any x so sn sc sh y ss m1 hc hn
        rw [e2, if_pos rfl] at cj
        rw [ea]
        rw [e1] at hma
        generalize nxt xs n sh = nx at *
        clear hb ea e3 e2 e4 e1 hc
        go_enter Tryz.func17, Tryz.ntmps17
        go_wp2
        go_quiet (exact Calls.quiet_of_same (places_any (J0.j.below (below_drewN (Below.refl _ _) _) (Nat.le_refl _)) m0))
        have J1 := J0.below (below_drewN (Below.refl _ _) nq)
        obtain ⟨y0, y1, y2, u0, u1, u2⟩ := box3 J1.j.box
        have z0 := J1.c0
        have z1 := J1.c1
        generalize (w.alloc (.cells #[.slice so sn sc, .slice ao an ac] 36)).drewN nq = W1 at *
        clear x0 x1 x2 J0
        go_wp2_with (first
          | (go_at_call 13; refine (hma _ J1.s J1.a).mono ?_; rintro e W2 ⟨rfl, h2⟩; have J2 := J1.below h2; obtain ⟨v0, v1, v2, u3, u4, u5⟩ := box3 J2.j.box; have z2 := J2.c0; have z3 := J2.c1)
          | (go_at_call 39; refine (cj _ J2.j J2.s).mono ?_; rintro e W3 ⟨o3, k3, c3, rfl, f3, h3⟩; have hk3 : k3 ≤ 5000 := (by have := f3.rd.len; omega); have J3 := J2.below h3; obtain ⟨q0, q1, q2, u6, u7, u8⟩ := box3 J3.j.box; have z4 := J3.c0; have z5 := J3.c1)
          | (go_at_call 41; refine (concat_any fo o3 fn fc k3 c3 W3.heap.size fs _ _ (allocNew W3 _) (J3.j.f.rd.below (box_below W3 _) (Nat.le_refl _)) J3.j.f.sl (f3.rd.below (box_below W3 _) (Nat.le_refl _)) f3.sl (by omega) hk3).mono ?_; rintro e W4 ⟨o4, c4, rfl, f4, h4⟩)
          | (go_at_call 40; refine (may_any o4 (fn + k3) c4 _ _ f4.rd).mono ?_; rintro e w' ⟨rfl, hw⟩; rw [hw]; clear hw w'))
        go_ret
        exact ⟨rfl, (J3.bel.trans ((box_below W3 _).mono J3.bel.size)).trans (h4.mono (by have := J3.bel.size; simp; omega))⟩
      · have ea : addE fs xs n sh at' = 17 := by unfold addE; rw [if_neg e4, if_neg (by omega), if_pos (.inl e2)]
        have t3 : (mayF (nxt xs n sh) != 0) = true := by simpa using e2
        have cj := fun V (x : Jn V B jb fo fn fc co cn cc go gc fs xs n) (y : Rd V so sn sh) => coverJ_any x so sn sc sh y ss m1 hc hn
        rw [if_neg e2] at cj
        rw [ea]
        rw [e1] at hma
        clear hb ea e2 e4 e1 hc
        go_enter Tryz.func17, Tryz.ntmps17
        go_wp2
        go_quiet (exact Calls.quiet_of_same (places_any (J0.j.below (below_drewN (Below.refl _ _) _) (Nat.le_refl _)) m0))
        have J1 := J0.below (below_drewN (Below.refl _ _) nq)
        obtain ⟨y0, y1, y2, u0, u1, u2⟩ := box3 J1.j.box
        have z0 := J1.c0
        have z1 := J1.c1
        generalize (w.alloc (.cells #[.slice so sn sc, .slice ao an ac] 36)).drewN nq = W1 at *
        clear x0 x1 x2 J0
        go_wp2_with (first
          | (go_at_call 13; refine (hma _ J1.s J1.a).mono ?_; rintro e W2 ⟨rfl, h2⟩; have J2 := J1.below h2; obtain ⟨v0, v1, v2, u3, u4, u5⟩ := box3 J2.j.box; have z2 := J2.c0; have z3 := J2.c1)
          | (go_at_call 39; refine (cj _ J2.j J2.s).mono ?_; rintro e W3 ⟨o3, k3, c3, rfl, f3, h3⟩; have J3 := J2.below h3; obtain ⟨q0, q1, q2, u6, u7, u8⟩ := box3 J3.j.box; have z4 := J3.c0; have z5 := J3.c1))
        go_ret
        exact ⟨rfl, J3.bel⟩
    · have ea : addE fs xs n sh at' = 1 := by unfold addE; rw [if_neg e4, if_pos e1]
      have hne : ((n : Int) == pr fs) = false := by simpa using e4
      have t3 : (mayA sh at' != 0) = true := by simpa using e1
      rw [ea]
      clear hb ea e4 e1
      go_enter Tryz.func17, Tryz.ntmps17
      go_wp2
      go_quiet (exact Calls.quiet_of_same (places_any (J0.j.below (below_drewN (Below.refl _ _) _) (Nat.le_refl _)) m0))
      have J1 := J0.below (below_drewN (Below.refl _ _) nq)
      obtain ⟨y0, y1, y2, u0, u1, u2⟩ := box3 J1.j.box
      have z0 := J1.c0
      have z1 := J1.c1
      generalize (w.alloc (.cells #[.slice so sn sc, .slice ao an ac] 36)).drewN nq = W1 at *
      clear x0 x1 x2 J0
      go_wp2_with (go_at_call 13; refine (hma _ J1.s J1.a).mono ?_; rintro e W2 ⟨rfl, h2⟩; have J2 := J1.below h2; obtain ⟨v0, v1, v2, u3, u4, u5⟩ := box3 J2.j.box; have z2 := J2.c0; have z3 := J2.c1)
      go_ret
      exact ⟨rfl, J2.bel⟩
end Go.Proofs.YtelcagfaflpolaaGreat
