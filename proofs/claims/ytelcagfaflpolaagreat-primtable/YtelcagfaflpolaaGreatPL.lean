
/- Package prim: atom's dyads; the calls that each statement asks ahead. -/

import Derived.Test.YtelcagfaflpolaaGreatPJ
import Derived.Test.YtelcagfaflpolaaGreatD4
import Derived.Deep.DeepCutAuto



namespace Go.Proofs.YtelcagfaflpolaaGreat

open Go.RowKit

set_option linter.unusedVariables false

/-- What a row's work does with each pair of the arrays xs, zs. -/
def TwoK (w : World) (R : Array Value) (n dx dy : Nat) (xs zs : Nat → List Int × List Int) (gE : Nat → Int) (ys : Nat → List Int × List Int) : Prop :=
  ∀ V k xso xo xsn xsc xn xc so ao sn sc an ac, Below w.heap.size w V → k < n → Rd V xso xsn (xs (k / dx)).1 → Sl xso xsn xsc → Rd V xo xn (xs (k / dx)).2 → Sl xo xn xc → Rd V so sn (zs (k / dy)).1 → Sl so sn sc → Rd V ao an (zs (k / dy)).2 → Sl ao an ac → Calls Tryz.prog 44 #[.agg R, .agg #[.slice xso xsn xsc, .slice xo xn xc], .agg #[.slice so sn sc, .slice ao an ac]] V fun e w' => AnsP V (gE k) (ys k).1 (ys k).2 e w'
theorem TwoK.below {w V : World} {R : Array Value} {n dx dy : Nat} {xs zs : Nat → List Int × List Int} {gE : Nat → Int} {ys : Nat → List Int × List Int} (h : TwoK w R n dx dy xs zs gE ys) (b : Below w.heap.size w V) : TwoK V R n dx dy xs zs gE ys :=
  fun U k xso xo xsn xsc xn xc so ao sn sc an ac bU => h U k xso xo xsn xsc xn xc so ao sn sc an ac (btw b bU b.size)
theorem bbA {B : Nat} {W V : World} (o : Obj) (h : Below B W V) (hB : B ≤ W.heap.size) : Below B W (V.alloc o) := btw h (box_below _ _) (Nat.le_trans hB h.size)
theorem bbS {B b i : Nat} {W V : World} (v : Value) (h : Below B W V) (hB : B ≤ b) : Below B W (V.setCell ⟨b, i, none⟩ v) := h.setCell (p := ⟨b, i, none⟩) hB v
theorem bx7 {W : World} {g : Nat} {a0 a1 a2 a3 a4 a5 a6 : Value} {t : TypeId} (h : W.heap[g]? = some (.cells #[a0, a1, a2, a3, a4, a5, a6] t (0, 0))) :
    W.cell? ⟨g, 0, none⟩ = some a0 ∧ W.cell? ⟨g, 1, none⟩ = some a1 ∧ W.cell? ⟨g, 2, none⟩ = some a2 ∧ W.cell? ⟨g, 3, none⟩ = some a3 ∧ W.cell? ⟨g, 4, none⟩ = some a4 ∧ W.cell? ⟨g, 5, none⟩ = some a5 ∧ W.cell? ⟨g, 6, none⟩ = some a6 :=
  ⟨(cell_of_row W g 0 _ t (0, 0) h).trans rfl, (cell_of_row W g 1 _ t (0, 0) h).trans rfl, (cell_of_row W g 2 _ t (0, 0) h).trans rfl, (cell_of_row W g 3 _ t (0, 0) h).trans rfl, (cell_of_row W g 4 _ t (0, 0) h).trans rfl, (cell_of_row W g 5 _ t (0, 0) h).trans rfl, (cell_of_row W g 6 _ t (0, 0) h).trans rfl⟩

theorem lift2_each {R : Array Value} {p1 p2 p3 p4 gx gy n nx ny cx cy dx dy : Nat} {xs zs ys : Nat → List Int × List Int} {gE : Nat → Int} {w : World} (n4 : n ≤ 4096) (hx0 : dx ≠ 0) (hy0 : dy ≠ 0) (hnx : nx * dx = n) (hny : ny * dy = n) (h1 : w.cell? ⟨p1, 0, none⟩ = some (.func (.func 44) #[.agg R] #[])) (h2 : w.cell? ⟨p2, 1, none⟩ = some (.slice (some ⟨gx, 0, none⟩) nx cx)) (h3 : w.cell? ⟨p2, 2, none⟩ = some (.slice (some ⟨gy, 0, none⟩) ny cy)) (h4 : w.cell? ⟨p3, 0, none⟩ = some (.int .i64 (dx : Nat))) (h5 : w.cell? ⟨p4, 0, none⟩ = some (.int .i64 (dy : Nat))) (ha : As w (some ⟨gx, 0, none⟩) nx xs) (hb : As w (some ⟨gy, 0, none⟩) ny zs) (hq : TwoK w R n dx dy xs zs gE ys) :
    ∀ V k, Below w.heap.size w V → k < n → Calls Tryz.prog 63 #[.int .i64 (k : Nat), .pointer (some ⟨p1, 0, none⟩), .pointer (some ⟨p2, 0, none⟩), .pointer (some ⟨p3, 0, none⟩), .pointer (some ⟨p4, 0, none⟩)] V fun e w' => AnsP V (gE k) (ys k).1 (ys k).2 e w' := by
  intro V k b hk
  have kx : k / dx < nx := Nat.div_lt_of_lt_mul (by rw [Nat.mul_comm]; omega)
  have ky : k / dy < ny := Nat.div_lt_of_lt_mul (by rw [Nat.mul_comm]; omega)
  obtain ⟨b', off, e, hl, hc⟩ := (ha.below b (Nat.le_refl _)).cells (Nat.lt_of_le_of_lt (Nat.zero_le _) kx)
  cases e
  obtain ⟨xso, xsn, xsc, xo, xn, xc, a1, a2, a3, a4, a5, a6⟩ := hc _ kx
  obtain ⟨b'', off, e, hl, hc⟩ := (hb.below b (Nat.le_refl _)).cells (Nat.lt_of_le_of_lt (Nat.zero_le _) ky)
  cases e
  obtain ⟨so, sn, sc, ao, an, ac, e1, e2, e3, e4, e5, e6⟩ := hc _ ky
  refine lift2c_any R p1 p2 p3 p4 gx 0 nx cx gy 0 ny cy k dx dy _ _ xso xo xsn xsc xn xc so ao sn sc an ac _ _ _ V (by omega) hx0 hy0 rfl rfl kx ky ⟨(b.cell (p := ⟨p1, 0, none⟩) (World.block_lt_of_cell? w _ h1)).trans h1, (b.cell (p := ⟨p2, 1, none⟩) (World.block_lt_of_cell? w _ h2)).trans h2, (b.cell (p := ⟨p2, 2, none⟩) (World.block_lt_of_cell? w _ h3)).trans h3, (b.cell (p := ⟨p3, 0, none⟩) (World.block_lt_of_cell? w _ h4)).trans h4, (b.cell (p := ⟨p4, 0, none⟩) (World.block_lt_of_cell? w _ h5)).trans h5, a1, a2, e1, e2⟩ fun U bU => ?_
  exact hq U k xso xo xsn xsc xn xc so ao sn sc an ac (btw b bU b.size) hk (a3.below bU (Nat.le_refl _)) a4 (a5.below bU (Nat.le_refl _)) a6 (e3.below bU (Nat.le_refl _)) e4 (e5.below bU (Nat.le_refl _)) e6

set_option maxRecDepth 20000 in
set_option maxHeartbeats 8000000 in
theorem lift2_joinA (R : Array Value) (l r : Int) (xso xo : Option Addr) (xsn xsc xn xc : Nat) (so ao : Option Addr) (sn sc an ac : Nat) (sx ax sh at' : List Int) (gE : Nat → Int) (ys : Nat → List Int × List Int) (n nx ny dx dy : Nat) (w : World) (l1 : -9223372036854775808 ≤ l) (l2 : l ≤ 9223372036854775807) (r1 : -9223372036854775808 ≤ r) (r2 : r ≤ 9223372036854775807) (tl : (l == 0) = true) (tr : (r == 0) = false) (hwx : ¬ (xsn : Int) ≤ l)
    (hsx : Rd w xso xsn sx) (ssx : Sl xso xsn xsc) (hax : Rd w xo xn ax) (sax : Sl xo xn xc) (hs : Rd w so sn sh) (ss : Sl so sn sc) (ha : Rd w ao an at') (sa : Sl ao an ac) (mx : mayA sx ax = 0) (h0 : mayA sh at' = 0)
    (hag : agrE (frm sx l) (frm sh r) = 0) (fs : List Int) (hfs : agrL (frm sx l) (frm sh r) = fs) (hbg : begE fs = 0) (hpr : (n : Int) = pr fs) (hNx : npl sx l = nx) (hNy : npl sh r = ny) (hdx : nx * dx = n) (hdy : ny * dy = n)
    (hq : TwoK w R n dx dy (cls sx ax l) (cls sh at' r) gE ys) :
    Calls Tryz.prog 43 #[.agg #[.slice xso xsn xsc, .slice xo xn xc], .agg #[.slice so sn sc, .slice ao an ac], .int .i64 l, .int .i64 r, .func (.func 44) #[.agg R] #[]] w fun e w' => AnsP w (lF gE fs ys n) (lS gE fs ys n) (lA gE fs ys n) e w' := by
  have b0 := box_below w (.cells #[.slice xso xsn xsc, .slice xo xn xc] 36)
  have b1 := btw b0 (box_below _ (.cells #[.slice so sn sc, .slice ao an ac] 36)) b0.size
  have b2 := btw b1 (box_below _ (.cells #[.func (.func 44) #[.agg R] #[]] 89)) b1.size
  have b3 := btw b2 (box_below _ (.cells #[.slice none 0 0, .slice none 0 0] 36)) b2.size
  obtain ⟨W1, hW1⟩ : ∃ W, W = w.alloc (.cells #[.slice xso xsn xsc, .slice xo xn xc] 36) := ⟨_, rfl⟩
  obtain ⟨W2, hW2⟩ : ∃ W, W = W1.alloc (.cells #[.slice so sn sc, .slice ao an ac] 36) := ⟨_, rfl⟩
  obtain ⟨W3, hW3⟩ : ∃ W, W = W2.alloc (.cells #[.func (.func 44) #[.agg R] #[]] 89) := ⟨_, rfl⟩
  have s1 : W1.heap.size = w.heap.size + 1 := by rw [hW1]; simp
  have s2 : W2.heap.size = w.heap.size + 2 := by rw [hW2]; simp; omega
  have s3 : W3.heap.size = w.heap.size + 3 := by rw [hW3]; simp; omega
  have k3 := box_below W3 (.cells #[.slice none 0 0, .slice none 0 0] 36)
  have k2 := btw (hW3 ▸ box_below W2 (.cells #[.func (.func 44) #[.agg R] #[]] 89)) k3 (by omega)
  have k1 := btw (hW2 ▸ box_below W1 (.cells #[.slice so sn sc, .slice ao an ac] 36)) k2 (by omega)
  have n4 := allocNew W3 (.cells #[.slice none 0 0, .slice none 0 0] 36)
  have n3 := (k3.block W2.heap.size (by omega)).trans (hW3 ▸ allocNew W2 (.cells #[.func (.func 44) #[.agg R] #[]] 89))
  have n2 := (k2.block W1.heap.size (by omega)).trans (hW2 ▸ allocNew W1 (.cells #[.slice so sn sc, .slice ao an ac] 36))
  have n1 := (k1.block w.heap.size (by omega)).trans (hW1 ▸ allocNew w (.cells #[.slice xso xsn xsc, .slice xo xn xc] 36))
  rw [s3] at n4
  rw [s2] at n3
  rw [s1] at n2
  have s4 : (W3.alloc (.cells #[.slice none 0 0, .slice none 0 0] 36)).heap.size = w.heap.size + 4 := by simp; omega
  subst hW3
  subst hW2
  subst hW1
  clear b0 b1 b2 k1 k2 k3 s1 s2 s3
  have hw1 := fun V => whole_any xso xo xsn xsc xn xc l V
  have t1 : decide ((xsn : Int) ≤ l) = false := by simpa using hwx
  rw [t1] at hw1
  clear t1 hwx
  have m0 : mayF fs = 0 := by
    unfold begE at hbg
    by_cases c : mayF fs = 0
    · exact c
    · rw [if_pos c] at hbg; exact absurd hbg c
  have p0 : pr fs ≠ 0 := by
    intro c
    unfold begE at hbg
    rw [if_neg (by omega), if_pos c] at hbg
    omega
  have pf := prF_bd m0
  have n0 : 0 < n := by omega
  have n4' : n ≤ 4096 := by omega
  have dx0 : dx ≠ 0 := by rintro rfl; omega
  have dy0 : dy ≠ 0 := by rintro rfl; omega
  have nx0 : nx ≠ 0 := by rintro rfl; omega
  have ny0 : ny ≠ 0 := by rintro rfl; omega
  have nxl : nx ≤ n := by rw [← hdx]; exact Nat.le_mul_of_pos_right _ (by omega)
  have nyl : ny ≤ n := by rw [← hdy]; exact Nat.le_mul_of_pos_right _ (by omega)
  have dxl : dx ≤ n := by rw [← hdx]; exact Nat.le_mul_of_pos_left _ (by omega)
  have dyl : dy ≤ n := by rw [← hdy]; exact Nat.le_mul_of_pos_left _ (by omega)
  have wx : IntKind.i64.wrap ((n : Int) / (nx : Int)) = (dx : Int) := by rw [← Int.natCast_ediv, ← hdx, Nat.mul_div_cancel_left _ (by omega)]; exact wrapIn _ (by omega)
  have wy : IntKind.i64.wrap ((n : Int) / (ny : Int)) = (dy : Int) := by rw [← Int.natCast_ediv, ← hdy, Nat.mul_div_cancel_left _ (by omega)]; exact wrapIn _ (by omega)
  have ux : ¬ (nx : Int) = 0 := by omega
  have uy : ¬ (ny : Int) = 0 := by omega
  have vx : ((nx : Int) == 0) = false := by simp; omega
  have vy : ((ny : Int) == 0) = false := by simp; omega
  have tn : ((n : Int) == 0) = false := by simp; omega
  have htw := fun V a1 a2 a3 a4 => two_ok xso xo so ao xsn xsc xn xc sn sc an ac sx ax sh at' l r V a1 ssx a2 sax a3 ss a4 sa l1 l2 r1 r2 mx h0 hag
  rw [hNx, hNy, hfs] at htw
  have hsz := fun V fo fn fc (x : Rd V fo fn fs) => size_any fo fn fc fs V x
  have ezF : sizeF fs = (n : Int) := (sizeF_ok m0).trans hpr.symm
  rw [m0, ezF] at hsz
  have HB : Hid (begE fs = 0) := hbg
  have HP : Hid ((n : Int) = pr fs) := hpr
  have HQ : Hid (TwoK w R n dx dy (cls sx ax l) (cls sh at' r) gE ys) := hq
  have HX : Hid (nx * dx = n) := hdx
  have HY : Hid (ny * dy = n) := hdy
  clear hbg hpr hq hdx hdy hNx hNy hfs hag m0 p0 pf mx h0 ezF
  generalize inn sx l = i1 at *
  generalize inn sh r = i2 at *
  generalize clz sx l = c1 at *
  generalize clz sh r = c2 at *
  generalize cls sx ax l = xs at *
  generalize cls sh at' r = zs at *
  generalize hE : lF gE fs ys n = E at *
  generalize hS : lS gE fs ys n = S at *
  generalize hA : lA gE fs ys n = A at *
  have HE : Hid (lF gE fs ys n = E ∧ lS gE fs ys n = S ∧ lA gE fs ys n = A) := ⟨hE, hS, hA⟩
  clear hE hS hA
  go_enter Tryz.func43, Tryz.ntmps43
  go_upto_region 12 with (first
    | (go_at_call 55; (with_reducible refine (hw1 _).mono ?_); rintro e w4 ⟨rfl, ka⟩
       have b4 := btw b3 ka b3.size
       have s5 := ka.size
       have m4 := (ka.block (w.heap.size + 3) (by omega)).trans n4
       have m3 := (ka.block (w.heap.size + 2) (by omega)).trans n3
       have m2 := (ka.block (w.heap.size + 1) (by omega)).trans n2
       have m1 := (ka.block w.heap.size (by omega)).trans n1
       obtain ⟨x0, x1, _, _⟩ := box2 m1
       obtain ⟨q0, q1, _, _⟩ := box2 m2
       clear n1 n2 n3 n4 hw1)
    | (go_at_call 21; (with_reducible refine (htw _ (hsx.below b4 (Nat.le_refl _)) (hax.below b4 (Nat.le_refl _)) (hs.below b4 (Nat.le_refl _)) (ha.below b4 (Nat.le_refl _))).mono ?_); rintro e w5 ⟨o5, n5, c5, gx, gy, u1, v1, x1', u2, v2, x2', u3, v3, x3', u4, v4, x4', rfl, f1, f2, f3, f4, f5, _, _, _, _, k5⟩
       have kb := box_below w5 (.cells #[.slice o5 n5 c5, .slice (some ⟨gx, 0, none⟩) nx nx, .slice (some ⟨gy, 0, none⟩) ny ny, .slice u1 v1 x1', .slice u2 v2 x2', .slice u3 v3 x3', .slice u4 v4 x4'] 53)
       have k6 := btw k5 kb k5.size
       have b6 := btw b4 k6 b4.size
       have s5b := k5.size
       have s6 := kb.size
       clear x0 x1 q0 q1
       have p4' := (k6.block (w.heap.size + 3) (by omega)).trans m4
       have p3' := (k6.block (w.heap.size + 2) (by omega)).trans m3
       have p2 := (k6.block (w.heap.size + 1) (by omega)).trans m2
       have p1 := (k6.block w.heap.size (by omega)).trans m1
       have np := allocNew w5 (.cells #[.slice o5 n5 c5, .slice (some ⟨gx, 0, none⟩) nx nx, .slice (some ⟨gy, 0, none⟩) ny ny, .slice u1 v1 x1', .slice u2 v2 x2', .slice u3 v3 x3', .slice u4 v4 x4'] 53)
       obtain ⟨y0, y1, y2, _⟩ := bx7 np
       have g1 := f1.rd.below kb (Nat.le_refl _)
       have g1s := f1.sl
       have A1 := (f2.below kb).as (by omega)
       have A2 := (f3.below kb).as (by omega)
       clear htw m1 m2 m3 m4 f2 f3)
    | (go_at_call 22; (with_reducible refine (hsz _ _ _ _ g1).mono ?_); rintro e w6 ⟨rfl, hw6⟩; rw [hw6]; clear hw6 w6 hsz))
  have gl : w5.heap.size < (w5.alloc (.cells #[.slice o5 n5 c5, .slice (some ⟨gx, 0, none⟩) nx nx, .slice (some ⟨gy, 0, none⟩) ny ny, .slice u1 v1 x1', .slice u2 v2 x2', .slice u3 v3 x3', .slice u4 v4 x4'] 53)).heap.size := by simp
  have gq : w.heap.size + 3 < (w5.alloc (.cells #[.slice o5 n5 c5, .slice (some ⟨gx, 0, none⟩) nx nx, .slice (some ⟨gy, 0, none⟩) ny ny, .slice u1 v1 x1', .slice u2 v2 x2', .slice u3 v3 x3', .slice u4 v4 x4'] 53)).heap.size := by rw [s4] at s5; simp; omega
  generalize w5.alloc (.cells #[.slice o5 n5 c5, .slice (some ⟨gx, 0, none⟩) nx nx, .slice (some ⟨gy, 0, none⟩) ny ny, .slice u1 v1 x1', .slice u2 v2 x2', .slice u3 v3 x3', .slice u4 v4 x4'] 53) = W6 at *
  have al : ∀ V, Below W6.heap.size W6 V → V.cell? ⟨w5.heap.size, 1, none⟩ = some (.slice (some ⟨gx, 0, none⟩) nx nx) ∧ V.cell? ⟨w5.heap.size, 2, none⟩ = some (.slice (some ⟨gy, 0, none⟩) ny ny) := fun V B => ⟨(B.cell (p := ⟨w5.heap.size, 1, none⟩) gl).trans y1, (B.cell (p := ⟨w5.heap.size, 2, none⟩) gl).trans y2⟩
  go_cut [17, 18] (fun a b V => ∃ p3 p4, a = .pointer (some ⟨p3, 0, none⟩) ∧ b = .pointer (some ⟨p4, 0, none⟩) ∧ V.cell? ⟨p3, 0, none⟩ = some (.int .i64 (dx : Nat)) ∧ V.cell? ⟨p4, 0, none⟩ = some (.int .i64 (dy : Nat)) ∧ Below W6.heap.size W6 V)
  case first =>
    go_region_held3 (fun V => V.cell? ⟨w5.heap.size, 1, none⟩ = some (.slice (some ⟨gx, 0, none⟩) nx nx) ∧ V.cell? ⟨w5.heap.size, 2, none⟩ = some (.slice (some ⟨gy, 0, none⟩) ny ny)) (exact al _ (by repeat (first | exact Below.refl _ _ | refine Below.drew ?_ | refine bbA _ ?_ (Nat.le_refl _) | refine bbS _ ?_ (by simp <;> omega)))) (fail)
    all_goals
      go_wp2
      go_meet
      case rel =>
        first
          | (refine ⟨W6.heap.size, W6.heap.size + 1, rfl, rfl, ?_, ?_, by repeat (first | exact Below.refl _ _ | refine Below.drew ?_ | refine bbA _ ?_ (Nat.le_refl _) | refine bbS _ ?_ (by simp <;> omega))⟩ <;> go_simp)
          | (refine ⟨W6.heap.size + 1, W6.heap.size, rfl, rfl, ?_, ?_, by repeat (first | exact Below.refl _ _ | refine Below.drew ?_ | refine bbA _ ?_ (Nat.le_refl _) | refine bbS _ ?_ (by simp <;> omega))⟩ <;> go_simp)
  case rest =>
    obtain ⟨p3, p4, rfl, rfl, c3, c4, bc⟩ := hcut
    have b7 := btw b6 bc b6.size
    have yd := (bc.cell (p := ⟨w.heap.size + 2, 0, none⟩) (show w.heap.size + 2 < W6.heap.size by omega)).trans ((cell_of_row _ (w.heap.size + 2) 0 _ 89 (0, 0) p3').trans rfl)
    have y0' := (bc.cell (p := ⟨w5.heap.size, 0, none⟩) gl).trans y0
    obtain ⟨y1', y2'⟩ := al _ bc
    have z4 := (bc.block (w.heap.size + 3) (by omega)).trans p4'
    have hj := joined_2 (w.heap.size + 2) w5.heap.size p3 p4 o5 n5 c5 fs n gE ys _ (g1.below bc (Nat.le_refl _)) g1s HB.out HP.out (lift2_each (xs := xs) (zs := zs) n4' dx0 dy0 HX.out HY.out yd y1' y2' c3 c4 (A1.below bc (Nat.le_refl _)) (A2.below bc (Nat.le_refl _)) (HQ.out.below b7))
    rw [HE.out.1, HE.out.2.1, HE.out.2.2] at hj
    have s8 := bc.size
    clear y0 y1 y2 al
    go_wp2_with (first
      | (go_at_call 57; (with_reducible refine hj.mono ?_); rintro e w7 ⟨o1, n1', c1', o2, n2', c2', rfl, h1, h2, k7⟩
         have b8 := btw b7 k7 b7.size
         obtain ⟨z0, z1, z2, z3⟩ := box2 ((k7.block (w.heap.size + 3) (by omega)).trans z4)
         clear hj))
    (try simp only [Exit.inBlock, Exit.then])
    refine bodyPost_ret (v := .tuple #[.agg #[.slice o1 n1' c1', .slice o2 n2' c2'], .int .i64 E]) (by rw [results_cell_tmp rfl]; go_simp) rfl ?_
    exact ansP_box h1 h2 (by omega) (by omega) b8
end Go.Proofs.YtelcagfaflpolaaGreat


namespace Go.Proofs.YtelcagfaflpolaaGreat

open Go.RowKit

set_option linter.unusedVariables false

theorem ansP_of_atom {w : World} {E : Int} {S A : List Int} {e : Ending} {w' : World} (h : ∃ o1 n1 c1 o2 n2 c2, e = .returned (.tuple #[.agg #[.slice o1 n1 c1, .slice o2 n2 c2], .int .i64 E]) ∧ Ft 3 w' w.heap.size o1 n1 c1 S ∧ Ft 2 w' w.heap.size o2 n2 c2 A ∧ Below w.heap.size w w') : AnsP w E S A e w' := h

theorem dyadP_atom (xso xo : Option Addr) (xsn xsc xn xc : Nat) (so ao : Option Addr) (sn sc an ac : Nat) (sx ax sy ay : List Int) (w : World) (hsx : Rd w xso xsn sx) (ssx : Sl xso xsn xsc) (hax : Rd w xo xn ax) (sax : Sl xo xn xc) (hsy : Rd w so sn sy) (ssy : Sl so sn sc) (hay : Rd w ao an ay) (say : Sl ao an ac) (mx : mayA sx ax = 0) (my : mayA sy ay = 0) (k : Nat) (hk : k < 43) (hD : pD k = .func (.func 67) #[] #[]) (hm : pDb k = true) (hl : pL k = 0) (hg : pG k = 0) :
    Calls Tryz.prog 20 #[.int .i64 ((k : Int) + 1), .agg #[.slice xso xsn xsc, .slice xo xn xc], .agg #[.slice so sn sc, .slice ao an ac]] w fun e w' => AnsP w (ddE ((k : Int) + 1) sx ax sy ay) (ddS ((k : Int) + 1) sx ax sy ay) (ddA ((k : Int) + 1) sx ax sy ay) e w' := by
  refine dyadP_go xso xo xsn xsc xn xc so ao sn sc an ac sx ax sy ay w hsx hax hsy hay mx my k hk hm _ _ _ fun V b => ?_
  refine lift2_zero _ _ _ xso xo xsn xsc xn xc so ao sn sc an ac _ _ _ V hl hg fun U bU => ?_
  rw [hD]
  have bw := btw b bU b.size
  refine two_atom _ _ _ _ _ _ _ _ _ xso xo xsn xsc xn xc so ao sn sc an ac _ _ _ U fun T bT => ?_
  have bt := btw bw bT bw.size
  exact dyad_any ((k : Int) + 1) xso xo so ao xsn xsc xn xc sn sc an ac sx ax sy ay T (hsx.below bt (Nat.le_refl _)) (hax.below bt (Nat.le_refl _)) (hsy.below bt (Nat.le_refl _)) (hay.below bt (Nat.le_refl _)) ssx ssy
theorem monadP_atom (so ao : Option Addr) (sn sc an ac : Nat) (sy ay : List Int) (w : World) (hsy : Rd w so sn sy) (ssy : Sl so sn sc) (hay : Rd w ao an ay) (say : Sl ao an ac) (my : mayA sy ay = 0) (k : Nat) (hk : k < 43) (hM : pM k = .func (.func 66) #[] #[]) (hm : pMb k = true) (hr : pR k = 0) :
    Calls Tryz.prog 16 #[.int .i64 ((k : Int) + 1), .agg #[.slice so sn sc, .slice ao an ac]] w fun e w' => AnsP w (moE ((k : Int) + 1) sy ay) (moS ((k : Int) + 1) sy ay) (moA ((k : Int) + 1) sy ay) e w' := by
  refine monadP_go so ao sn sc an ac sy ay w hsy hay my k hk hm _ _ _ fun V b => ?_
  refine lift1_zero _ _ so ao sn sc an ac _ _ _ V hr fun U bU => ?_
  rw [hM]
  have bw := btw b bU b.size
  refine one_atom _ _ _ _ _ _ _ _ _ so ao sn sc an ac _ _ _ U fun T bT => ?_
  have bt := btw bw bT bw.size
  exact monad_any ((k : Int) + 1) so ao sn sc an ac sy ay T (hsy.below bt (Nat.le_refl _)) (hay.below bt (Nat.le_refl _))

theorem list9_any (ao : Option Addr) (n cap : Nat) (zs : List Int) (w : World) (h : Rd w ao n zs) :
    Calls Tryz.prog 25 #[.slice ao n cap] w fun e w' => ∃ o, e = .returned (.agg #[.slice (some o) 1 1, .slice ao n cap]) ∧ Rd w' (some o) 1 [(n : Int)] ∧ Sl (some o) 1 1 ∧ Rd w' ao n zs ∧ Below w.heap.size w w' := by
  have hroom := h.room
  go_enter Tryz.func25, Tryz.ntmps25
  go_wp2
  go_returns
  have f := ft_new 3 (w.alloc (.cells #[.slice (some ⟨w.heap.size + 1, 0, none⟩) 1 1, .slice ao n cap] 36)) [(n : Int)] (by simp) (num1 (by omega) (by omega))
  rw [World.size_alloc] at f
  have b : Below w.heap.size w ((w.alloc (.cells #[.slice (some ⟨w.heap.size + 1, 0, none⟩) 1 1, .slice ao n cap] 36)).alloc (.cells #[.int .i64 (n : Int)] 3)) := (box_below w _).alloc (by simp) _
  exact ⟨_, rfl, f.rd, f.sl, h.below b (Nat.le_refl _), b⟩

/-- A list made of a literal. -/
theorem c9_lit (V : World) (zs : List Int) (hl : zs.length ≤ 100) (hn : ∀ k, k < zs.length → -9223372036854775808 ≤ nth zs k ∧ nth zs k ≤ 9223372036854775807) :
    Calls Tryz.prog 25 #[.slice (some ⟨V.heap.size, 0, none⟩) zs.length zs.length] (V.alloc (.cells (zs.map (Value.int .i64)).toArray 2)) fun e w' => ∃ o o2 c2, e = .returned (.agg #[.slice (some o) 1 1, .slice o2 zs.length c2]) ∧ Rd w' (some o) 1 [(zs.length : Int)] ∧ Sl (some o) 1 1 ∧ Rd w' o2 zs.length zs ∧ Below (V.alloc (.cells (zs.map (Value.int .i64)).toArray 2)).heap.size (V.alloc (.cells (zs.map (Value.int .i64)).toArray 2)) w' := by
  have f := ft_new 2 V zs hl hn
  exact (list9_any _ _ _ zs _ f.rd).mono fun e w' ⟨o, h1, h2, h3, h4, h5⟩ => ⟨o, _, _, h1, h2, h3, h4, h5⟩
theorem c9_lit' (V : World) (zs : List Int) (hl : zs.length ≤ 100) (hn : ∀ k, k < zs.length → -9223372036854775808 ≤ nth zs k ∧ nth zs k ≤ 9223372036854775807) :
    Calls Tryz.prog 25 #[.slice (some ⟨V.heap.size, 0, none⟩) zs.length zs.length] (V.alloc (.cells (zs.map (Value.int .i64)).toArray 2)).drew fun e w' => ∃ o o2 c2, e = .returned (.agg #[.slice (some o) 1 1, .slice o2 zs.length c2]) ∧ Rd w' (some o) 1 [(zs.length : Int)] ∧ Sl (some o) 1 1 ∧ Rd w' o2 zs.length zs ∧ Below (V.alloc (.cells (zs.map (Value.int .i64)).toArray 2)).drew.heap.size (V.alloc (.cells (zs.map (Value.int .i64)).toArray 2)).drew w' := by
  have f := (ft_new 2 V zs hl hn).below (Below.refl _ (V.alloc (.cells (zs.map (Value.int .i64)).toArray 2))).drew (Nat.le_refl _)
  exact (list9_any _ _ _ zs _ f.rd).mono fun e w' ⟨o, h1, h2, h3, h4, h5⟩ => ⟨o, _, _, h1, h2, h3, h4, h5⟩


theorem c9_of (w : World) : Calls Tryz.prog 12 #[.string ⟨#[43, 58]⟩] w fun e w' => e = .returned (.tuple #[.int .i64 16, .bool true]) ∧ Below w.heap.size w w' :=
  of_any ⟨#[43, 58]⟩ (by decide) 16 true (by kernel_rfl) (by kernel_rfl) w
theorem c9_info (w : World) : Calls Tryz.prog 10 #[.int .i64 27] w fun e w' => e = .returned (.tuple #[.agg #[.string ⟨#[123]⟩, .bool false, .bool true, .int .i64 0, .int .i64 0, .int .i64 64, .int .i64 0, .bool false, .bool false], .int .i64 0]) ∧ Below w.heap.size w w' :=
  info_yes 26 (by omega) w
theorem c9_add (W : World) (so bo zo uo : Option Addr) (sc bc tc uc : Nat) (f : Rd W so 1 [2]) (sf : Sl so 1 sc) (g : Rd W bo 2 [1, 2]) (sg : Sl bo 2 bc) (h : Rd W zo 1 [2]) (st : Sl zo 1 tc) (k : Rd W uo 2 [3, 4]) (su : Sl uo 2 uc) :
    Calls Tryz.prog 20 #[.int .i64 1, .agg #[.slice so 1 sc, .slice bo 2 bc], .agg #[.slice zo 1 tc, .slice uo 2 uc]] W fun e w' => AnsP W 0 [2] [4, 6] e w' := by
  have := dyadP_atom so bo 1 sc 2 bc zo uo 1 tc 2 uc [2] [1, 2] [2] [3, 4] W f sf g sg h st k su (by decide) (by decide) 0 (by omega) rfl rfl rfl rfl
  rw [show ddE (((0 : Nat) : Int) + 1) [2] [1, 2] [2] [3, 4] = 0 by decide, show ddS (((0 : Nat) : Int) + 1) [2] [1, 2] [2] [3, 4] = [2] by decide, show ddA (((0 : Nat) : Int) + 1) [2] [1, 2] [2] [3, 4] = [4, 6] by decide] at this
  exact this
theorem c9_val (W : World) (so bo : Option Addr) (sc bc : Nat) (f : Rd W so 1 [1]) (g : Rd W bo 1 [1]) :
    Calls Tryz.prog 16 #[.int .i64 4, .agg #[.slice so 1 sc, .slice bo 1 bc]] W fun e w' => AnsP W 16 [] [] e w' :=
  monadP_val so bo 1 sc 1 bc [1] [1] W f g (by decide) 3 (by omega) rfl

theorem from_each (w : World) (sp : ByteArray) (r l g i : Int) (h c : Bool) : TwoK w #[.int .i64 27, .string sp, .nilFunc, .int .i64 r, .func (.func 69) #[] #[], .int .i64 l, .int .i64 g, .int .i64 i, .bool h, .bool c] 2 1 2 (cls [2] [1, 0] 0) (cls [2] [7, 8] 64) (fun k => itmE [2] [7, 8] (nth [1, 0] k)) (fun k => (itmS [2] [7, 8] (nth [1, 0] k), itmA [2] [7, 8] (nth [1, 0] k))) := by
  intro V k xso xo xsn xsc xn xc so ao sn sc an ac b hk a1 a2 a3 a4 a5 a6 a7 a8
  have e1 : (cls [2] [1, 0] 0 (k / 1)).1 = [] := rfl
  have e2 : (cls [2] [1, 0] 0 (k / 1)).2 = [nth [1, 0] k] := by
    match k, hk with
    | 0, _ => decide
    | 1, _ => decide
  have e3 : (cls [2] [7, 8] 64 (k / 2)).1 = [2] := rfl
  have e4 : (cls [2] [7, 8] 64 (k / 2)).2 = [7, 8] := by
    match k, hk with
    | 0, _ => decide
    | 1, _ => decide
  rw [e1] at a1
  rw [e2] at a3
  rw [e3] at a5
  rw [e4] at a7
  have l1 := a1.len
  have l2 := a3.len
  obtain rfl : xsn = 0 := l1.symm
  obtain rfl : xn = 1 := l2.symm
  refine two_seek _ _ _ _ _ _ _ _ _ xso xo 0 xsc 1 xc so ao sn sc an ac _ _ _ V fun T bT => ?_
  have hx : mayA ([] : List Int) [nth [1, 0] k] = 0 := rfl
  refine (dyadS_from xso xo so ao 0 xsc 1 xc sn sc an ac [] [nth [1, 0] k] [2] [7, 8] (fun s a => s = itmS [2] [7, 8] (nth [1, 0] k) ∧ a = itmA [2] [7, 8] (nth [1, 0] k)) _ T (a1.below bT (Nat.le_refl _)) (a3.below bT (Nat.le_refl _)) (a5.below bT (Nat.le_refl _)) (a7.below bT (Nat.le_refl _)) hx (by decide) fun U bU => ?_).mono fun e w' q => ansP_of_Q q
  have bb := btw bT bU bT.size
  exact from_ok xso xo so ao xsc 1 xc sn sc an ac (nth [1, 0] k) [nth [1, 0] k] [2] [7, 8] U (a3.below bb (Nat.le_refl _)) (by omega) rfl (a5.below bb (Nat.le_refl _)) a6 (a7.below bb (Nat.le_refl _)) a8
theorem c9_from (W : World) (so bo zo uo : Option Addr) (sc bc tc uc : Nat) (f : Rd W so 1 [2]) (sf : Sl so 1 sc) (g : Rd W bo 2 [1, 0]) (sg : Sl bo 2 bc) (h : Rd W zo 1 [2]) (st : Sl zo 1 tc) (k : Rd W uo 2 [7, 8]) (su : Sl uo 2 uc) :
    Calls Tryz.prog 20 #[.int .i64 27, .agg #[.slice so 1 sc, .slice bo 2 bc], .agg #[.slice zo 1 tc, .slice uo 2 uc]] W fun e w' => AnsP W 0 [2] [8, 7] e w' := by
  refine dyadP_go so bo 1 sc 2 bc zo uo 1 tc 2 uc [2] [1, 0] [2] [7, 8] W f g h k (by decide) (by decide) 26 (by omega) rfl 0 [2] [8, 7] fun V b => ?_
  have := lift2_joinA _ 0 64 so bo 1 sc 2 bc zo uo 1 tc 2 uc [2] [1, 0] [2] [7, 8] _ _ 2 2 1 1 2 V (by omega) (by omega) (by omega) (by omega) rfl rfl (by omega) (f.below b (Nat.le_refl _)) sf (g.below b (Nat.le_refl _)) sg (h.below b (Nat.le_refl _)) st (k.below b (Nat.le_refl _)) su (by decide) (by decide) (by decide) [2] (by decide) (by decide) (by decide) (by decide) (by decide) rfl rfl (from_each V ⟨#[123]⟩ 0 0 64 0 false false)
  rw [show lF (fun k => itmE [2] [7, 8] (nth [1, 0] k)) [2] (fun k => (itmS [2] [7, 8] (nth [1, 0] k), itmA [2] [7, 8] (nth [1, 0] k))) 2 = 0 by decide, show lS (fun k => itmE [2] [7, 8] (nth [1, 0] k)) [2] (fun k => (itmS [2] [7, 8] (nth [1, 0] k), itmA [2] [7, 8] (nth [1, 0] k))) 2 = [2] by decide, show lA (fun k => itmE [2] [7, 8] (nth [1, 0] k)) [2] (fun k => (itmS [2] [7, 8] (nth [1, 0] k), itmA [2] [7, 8] (nth [1, 0] k))) 2 = [8, 7] by decide] at this
  exact this
end Go.Proofs.YtelcagfaflpolaaGreat
