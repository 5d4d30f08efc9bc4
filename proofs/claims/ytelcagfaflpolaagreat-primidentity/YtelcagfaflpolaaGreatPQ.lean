
/- PrimIdentity: an array of identities changes nothing. -/

import Derived.Test.YtelcagfaflpolaaGreatPQa
import Derived.Deep.DeepCutAuto


namespace Go.Proofs.YtelcagfaflpolaaGreat

open Go.RowKit

set_option linter.unusedVariables false

set_option maxRecDepth 20000 in
set_option maxHeartbeats 8000000 in
theorem ident_no (so ao : Option Addr) (sn sc an ac : Nat) (sy ay : List Int) (w : World) (hsy : Rd w so sn sy) (ssy : Sl so sn sc) (hay : Rd w ao an ay) (say : Sl ao an ac) (op : Int) 
    (hinf : ∀ W, Calls Tryz.prog 10 #[.int .i64 op] W fun e w' => e = .returned (.tuple #[.agg #[.string ⟨#[]⟩, .bool false, .bool false, .int .i64 0, .int .i64 0, .int .i64 0, .int .i64 0, .bool false, .bool false], .int .i64 1]) ∧ Below W.heap.size W w') :
    Calls Tryz.prog 7 #[.int .i64 op, .agg #[.slice so sn sc, .slice ao an ac]] w fun e w' => e = .returned (.bool true) ∧ Below w.heap.size w w' := by
  have b1 := box_below w (.cells #[.slice so sn sc, .slice ao an ac] 36)
  have n1 := allocNew w (.cells #[.slice so sn sc, .slice ao an ac] 36)
  have hbg := begun9_any (w.alloc (.cells #[.slice so sn sc, .slice ao an ac] 36))
  have cM := fun V => mayA_any so ao sn sc an ac sy ay V
  go_enter Tryz.func7, Tryz.ntmps7
  go_wp2_with (first
    | (go_at_call 8; (with_reducible refine hbg.mono ?_); rintro e w3 ⟨rfl, k3⟩
       have b3 := btw b1 k3 b1.size
       have s3 := k3.size
       rw [World.size_alloc] at s3
       have m1 := (k3.block w.heap.size (by simp)).trans n1
       clear n1 k3 hbg b1)
    | (go_at_call 10; (with_reducible refine (hinf _).mono ?_); rintro e w4 ⟨rfl, k4⟩
       have k5 := btw k4 (box_below w4 (.cells #[.string ⟨#[]⟩, .bool false, .bool false, .int .i64 0, .int .i64 0, .int .i64 0, .int .i64 0, .bool false, .bool false] 27)) k4.size
       have b5 := btw b3 k5 b3.size
       have s5 := k5.size
       have p1 := (k5.block w.heap.size (by omega)).trans m1
       obtain ⟨x0, x1, _, _⟩ := box2 p1
       have ibx := allocNew w4 (.cells #[.string ⟨#[]⟩, .bool false, .bool false, .int .i64 0, .int .i64 0, .int .i64 0, .int .i64 0, .bool false, .bool false] 27)
       obtain ⟨⟨_, _, _, _, _, _, ie, ih, ic⟩, _⟩ := bx9 ibx
       clear m1 hinf k4))
  go_ret
  exact ⟨rfl, b5⟩

set_option maxRecDepth 20000 in
set_option maxHeartbeats 8000000 in
theorem ident_free (so ao : Option Addr) (sn sc an ac : Nat) (sy ay : List Int) (w : World) (hsy : Rd w so sn sy) (ssy : Sl so sn sc) (hay : Rd w ao an ay) (say : Sl ao an ac) (op : Int) (k : Nat) (sp : ByteArray) (mb db : Bool) (r l g ei : Int) (c : Bool)
    (hinf : ∀ W, Calls Tryz.prog 10 #[.int .i64 ((k : Int) + 1)] W fun e w' => e = .returned (.tuple #[.agg #[.string sp, .bool mb, .bool db, .int .i64 r, .int .i64 l, .int .i64 g, .int .i64 ei, .bool false, .bool c], .int .i64 0]) ∧ Below W.heap.size W w') :
    Calls Tryz.prog 7 #[.int .i64 ((k : Int) + 1), .agg #[.slice so sn sc, .slice ao an ac]] w fun e w' => e = .returned (.bool true) ∧ Below w.heap.size w w' := by
  have b1 := box_below w (.cells #[.slice so sn sc, .slice ao an ac] 36)
  have n1 := allocNew w (.cells #[.slice so sn sc, .slice ao an ac] 36)
  have hbg := begun9_any (w.alloc (.cells #[.slice so sn sc, .slice ao an ac] 36))
  have cM := fun V => mayA_any so ao sn sc an ac sy ay V
  go_enter Tryz.func7, Tryz.ntmps7
  go_wp2_with (first
    | (go_at_call 8; (with_reducible refine hbg.mono ?_); rintro e w3 ⟨rfl, k3⟩
       have b3 := btw b1 k3 b1.size
       have s3 := k3.size
       rw [World.size_alloc] at s3
       have m1 := (k3.block w.heap.size (by simp)).trans n1
       clear n1 k3 hbg b1)
    | (go_at_call 10; (with_reducible refine (hinf _).mono ?_); rintro e w4 ⟨rfl, k4⟩
       have k5 := btw k4 (box_below w4 (.cells #[.string sp, .bool mb, .bool db, .int .i64 r, .int .i64 l, .int .i64 g, .int .i64 ei, .bool false, .bool c] 27)) k4.size
       have b5 := btw b3 k5 b3.size
       have s5 := k5.size
       have p1 := (k5.block w.heap.size (by omega)).trans m1
       obtain ⟨x0, x1, _, _⟩ := box2 p1
       have ibx := allocNew w4 (.cells #[.string sp, .bool mb, .bool db, .int .i64 r, .int .i64 l, .int .i64 g, .int .i64 ei, .bool false, .bool c] 27)
       obtain ⟨⟨_, _, _, _, _, _, ie, ih, ic⟩, _⟩ := bx9 ibx
       clear m1 hinf k4))
  go_ret
  exact ⟨rfl, b5⟩

set_option maxRecDepth 20000 in
set_option maxHeartbeats 8000000 in
theorem ident_bad (so ao : Option Addr) (sn sc an ac : Nat) (sy ay : List Int) (w : World) (hsy : Rd w so sn sy) (ssy : Sl so sn sc) (hay : Rd w ao an ay) (say : Sl ao an ac) (op : Int) (k : Nat) (sp : ByteArray) (mb db : Bool) (r l g ei : Int) (c : Bool) (my : mayA sy ay ≠ 0)
    (hinf : ∀ W, Calls Tryz.prog 10 #[.int .i64 ((k : Int) + 1)] W fun e w' => e = .returned (.tuple #[.agg #[.string sp, .bool mb, .bool db, .int .i64 r, .int .i64 l, .int .i64 g, .int .i64 ei, .bool true, .bool c], .int .i64 0]) ∧ Below W.heap.size W w') :
    Calls Tryz.prog 7 #[.int .i64 ((k : Int) + 1), .agg #[.slice so sn sc, .slice ao an ac]] w fun e w' => e = .returned (.bool true) ∧ Below w.heap.size w w' := by
  have b1 := box_below w (.cells #[.slice so sn sc, .slice ao an ac] 36)
  have n1 := allocNew w (.cells #[.slice so sn sc, .slice ao an ac] 36)
  have hbg := begun9_any (w.alloc (.cells #[.slice so sn sc, .slice ao an ac] 36))
  have cM := fun V => mayA_any so ao sn sc an ac sy ay V
  have h0' : (mayA sy ay != 0) = true := by simpa using my
  clear my
  go_enter Tryz.func7, Tryz.ntmps7
  go_wp2_with (first
    | (go_at_call 8; (with_reducible refine hbg.mono ?_); rintro e w3 ⟨rfl, k3⟩
       have b3 := btw b1 k3 b1.size
       have s3 := k3.size
       rw [World.size_alloc] at s3
       have m1 := (k3.block w.heap.size (by simp)).trans n1
       clear n1 k3 hbg b1)
    | (go_at_call 10; (with_reducible refine (hinf _).mono ?_); rintro e w4 ⟨rfl, k4⟩
       have k5 := btw k4 (box_below w4 (.cells #[.string sp, .bool mb, .bool db, .int .i64 r, .int .i64 l, .int .i64 g, .int .i64 ei, .bool true, .bool c] 27)) k4.size
       have b5 := btw b3 k5 b3.size
       have s5 := k5.size
       have p1 := (k5.block w.heap.size (by omega)).trans m1
       obtain ⟨x0, x1, _, _⟩ := box2 p1
       have ibx := allocNew w4 (.cells #[.string sp, .bool mb, .bool db, .int .i64 r, .int .i64 l, .int .i64 g, .int .i64 ei, .bool true, .bool c] 27)
       obtain ⟨⟨_, _, _, _, _, _, ie, ih, ic⟩, _⟩ := bx9 ibx
       clear m1 hinf k4)
    | (go_at_call 13; (with_reducible refine (cM _ (hsy.below b5 (Nat.le_refl _)) (hay.below b5 (Nat.le_refl _))).mono ?_); rintro e w6 ⟨rfl, k6⟩
       have b6 := btw b5 k6 b5.size
       have s6 := k6.size
       have q1 := (k6.block w.heap.size (by omega)).trans p1
       have q2 := (k6.block w4.heap.size (by simp)).trans ibx
       clear x0 x1 ie ih ic p1 ibx
       obtain ⟨x0, x1, _, _⟩ := box2 q1
       obtain ⟨⟨_, _, _, _, _, _, ie, ih, ic⟩, _⟩ := bx9 q2
       clear cM))
  go_ret
  exact ⟨rfl, b6⟩
theorem two_first (W : World) (o p : Array Value) : ((W.alloc (.cells o 36)).alloc (.cells p 36)).drew.heap[W.heap.size]? = some (.cells o 36 (0, 0)) :=
  ((box_below (W.alloc (.cells o 36)) (.cells p 36)).block W.heap.size (by simp)).trans (allocNew W _)
theorem two_second (W : World) (o p : Array Value) : ((W.alloc (.cells o 36)).alloc (.cells p 36)).drew.heap[W.heap.size + 1]? = some (.cells p 36 (0, 0)) := by
  have := allocNew (W.alloc (.cells o 36)) (.cells p 36)
  rwa [World.size_alloc] at this

set_option maxRecDepth 20000 in
set_option maxHeartbeats 8000000 in
theorem ident_left (so ao : Option Addr) (sn sc an ac : Nat) (sy ay : List Int) (w : World) (hsy : Rd w so sn sy) (ssy : Sl so sn sc) (hay : Rd w ao an ay) (say : Sl ao an ac) (op : Int) (k : Nat) (sp : ByteArray) (mb db : Bool) (r l g ei : Int) (c : Bool) (my : mayA sy ay = 0) (mf : mayF sy = 0) (zs fl : List Int) (eS : filS sy = sy) (eA : filA sy ei = fl) (e1 : -9223372036854775808 ≤ ei) (e2 : ei ≤ 9223372036854775807)
    (htu : ∀ V, Rd V so sn sy → Rd V ao an ay → Calls Tryz.prog 23 #[.int .i64 ((k : Int) + 1), .agg #[.slice so sn sc, .slice ao an ac]] V fun e w' => ∃ o1 c1 o2 c2, e = .returned (.agg #[.slice o1 sn c1, .slice o2 an c2]) ∧ Ft 3 w' V.heap.size o1 sn c1 sy ∧ Ft 2 w' V.heap.size o2 an c2 zs ∧ Below V.heap.size V w')
    (HD : ∀ V (b : Below w.heap.size w V) xso xo xsn xsc xn xc uso uo usn usc un uc, Rd V xso xsn sy → Sl xso xsn xsc → Rd V xo xn fl → Sl xo xn xc → Rd V uso usn sy → Sl uso usn usc → Rd V uo un zs → Sl uo un uc → Calls Tryz.prog 20 #[.int .i64 ((k : Int) + 1), .agg #[.slice xso xsn xsc, .slice xo xn xc], .agg #[.slice uso usn usc, .slice uo un uc]] V fun e w' => AnsP V 0 sy zs e w')
    (t2 : (((k : Int) + 1) == 2) = false) (t4 : (((k : Int) + 1) == 4) = false) (t9 : (((k : Int) + 1) == 9) = false) (t13 : (((k : Int) + 1) == 13) = false) (t20 : (((k : Int) + 1) == 20) = false)
    (hinf : ∀ W, Calls Tryz.prog 10 #[.int .i64 ((k : Int) + 1)] W fun e w' => e = .returned (.tuple #[.agg #[.string sp, .bool mb, .bool db, .int .i64 r, .int .i64 l, .int .i64 g, .int .i64 ei, .bool true, .bool c], .int .i64 0]) ∧ Below W.heap.size W w') :
    Calls Tryz.prog 7 #[.int .i64 ((k : Int) + 1), .agg #[.slice so sn sc, .slice ao an ac]] w fun e w' => e = .returned (.bool true) ∧ Below w.heap.size w w' := by
  have b1 := box_below w (.cells #[.slice so sn sc, .slice ao an ac] 36)
  have n1 := allocNew w (.cells #[.slice so sn sc, .slice ao an ac] 36)
  have hbg := begun9_any (w.alloc (.cells #[.slice so sn sc, .slice ao an ac] 36))
  have cM := fun V => mayA_any so ao sn sc an ac sy ay V
  rw [my] at cM
  go_enter Tryz.func7, Tryz.ntmps7
  go_upto_region 10 with (first
    | (go_at_call 8; (with_reducible refine hbg.mono ?_); rintro e w3 ⟨rfl, k3⟩
       have b3 := btw b1 k3 b1.size
       have s3 := k3.size
       rw [World.size_alloc] at s3
       have m1 := (k3.block w.heap.size (by simp)).trans n1
       clear n1 k3 hbg b1)
    | (go_at_call 10; (with_reducible refine (hinf _).mono ?_); rintro e w4 ⟨rfl, k4⟩
       have k5 := btw k4 (box_below w4 (.cells #[.string sp, .bool mb, .bool db, .int .i64 r, .int .i64 l, .int .i64 g, .int .i64 ei, .bool true, .bool c] 27)) k4.size
       have b5 := btw b3 k5 b3.size
       have s5 := k5.size
       have p1 := (k5.block w.heap.size (by omega)).trans m1
       obtain ⟨x0, x1, _, _⟩ := box2 p1
       have ibx := allocNew w4 (.cells #[.string sp, .bool mb, .bool db, .int .i64 r, .int .i64 l, .int .i64 g, .int .i64 ei, .bool true, .bool c] 27)
       obtain ⟨⟨_, _, _, _, _, _, ie, ih, ic⟩, _⟩ := bx9 ibx
       clear m1 hinf k4)
    | (go_at_call 13; (with_reducible refine (cM _ (hsy.below b5 (Nat.le_refl _)) (hay.below b5 (Nat.le_refl _))).mono ?_); rintro e w6 ⟨rfl, k6⟩
       have b6 := btw b5 k6 b5.size
       have s6 := k6.size
       have q1 := (k6.block w.heap.size (by omega)).trans p1
       have q2 := (k6.block w4.heap.size (by simp)).trans ibx
       clear x0 x1 ie ih ic p1 ibx
       obtain ⟨x0, x1, _, _⟩ := box2 q1
       obtain ⟨⟨_, _, _, _, _, _, ie, ih, ic⟩, _⟩ := bx9 q2
       clear cM)
    | (go_at_call 23; (with_reducible refine (htu _ (hsy.below b6 (Nat.le_refl _)) (hay.below b6 (Nat.le_refl _))).mono ?_); rintro e w7 ⟨o1, c1, o2, c2, rfl, f1, f2, k7⟩
       have kb7 := box_below w7 (.cells #[.slice o1 sn c1, .slice o2 an c2] 36)
       have k8 := btw k7 kb7 k7.size
       have b8 := btw b6 k8 b6.size
       have Z0 := bv_new (c1 := c1) (c2 := c2) f1.rd f2.rd
       have q3 := (k8.block w4.heap.size (Array.getElem?_eq_some_iff.1 q2).1).trans q2
       have sz1 := f1.sl
       have sz2 := f2.sl
       clear x0 x1 ie ih ic q1 q2
       obtain ⟨x0, x1⟩ := Z0.c
       obtain ⟨⟨_, _, _, _, _, _, ie, ih, ic⟩, _⟩ := bx9 q3
       have hfl := fill_any o1 sn c1 sy ei _ Z0.s sz1 e1 e2
       rw [mf, eS, eA] at hfl
       clear htu k7 kb7)
    | (go_at_call 24; (with_reducible refine hfl.mono ?_); rintro e w9 ⟨p1, n1, d1, p2, n2, d2, rfl, g1, g2, _, k9⟩
       have kb9 := box_below w9 (.cells #[.slice p1 n1 d1, .slice p2 n2 d2] 36)
       have k10 := btw k9 kb9 k9.size
       have b10 := btw b8 k10 b8.size
       have Z1 := Z0.below k10
       have Y1 := bv_new (c1 := d1) (c2 := d2) g1.rd g2.rd
       have sp1 := g1.sl
       have sp2 := g2.sl
       clear x0 x1 ie ih ic q3 Z0 hfl k9 kb9
       obtain ⟨x0, x1⟩ := Z1.c
       obtain ⟨y0, y1⟩ := Y1.c))
  have gz : w7.heap.size < (w9.alloc (.cells #[.slice p1 n1 d1, .slice p2 n2 d2] 36)).heap.size := (Array.getElem?_eq_some_iff.1 Z1.box).1
  have gy : w9.heap.size < (w9.alloc (.cells #[.slice p1 n1 d1, .slice p2 n2 d2] 36)).heap.size := (Array.getElem?_eq_some_iff.1 Y1.box).1
  generalize w9.alloc (.cells #[.slice p1 n1 d1, .slice p2 n2 d2] 36) = WA at *
  have al : ∀ V, Below WA.heap.size WA V → V.cell? ⟨w7.heap.size, 0, none⟩ = some (.slice o1 sn c1) ∧ V.cell? ⟨w7.heap.size, 1, none⟩ = some (.slice o2 an c2) ∧ V.cell? ⟨w9.heap.size, 0, none⟩ = some (.slice p1 n1 d1) ∧ V.cell? ⟨w9.heap.size, 1, none⟩ = some (.slice p2 n2 d2) := fun V B => ⟨(B.cell (p := ⟨w7.heap.size, 0, none⟩) gz).trans x0, (B.cell (p := ⟨w7.heap.size, 1, none⟩) gz).trans x1, (B.cell (p := ⟨w9.heap.size, 0, none⟩) gy).trans y0, (B.cell (p := ⟨w9.heap.size, 1, none⟩) gy).trans y1⟩
  go_cut [10, 11] (fun a b V => ∃ px pw, a = .pointer (some ⟨px, 0, none⟩) ∧ b = .pointer (some ⟨pw, 0, none⟩) ∧ px ≠ pw ∧ WA.heap.size ≤ px ∧ WA.heap.size ≤ pw ∧ V.heap[px]? = some (.cells #[.slice p1 n1 d1, .slice p2 n2 d2] 36 (0, 0)) ∧ V.heap[pw]? = some (.cells #[.slice o1 sn c1, .slice o2 an c2] 36 (0, 0)) ∧ Below WA.heap.size WA V)
  case first =>
    go_region_held3 (fun V => V.cell? ⟨w7.heap.size, 0, none⟩ = some (.slice o1 sn c1) ∧ V.cell? ⟨w7.heap.size, 1, none⟩ = some (.slice o2 an c2) ∧ V.cell? ⟨w9.heap.size, 0, none⟩ = some (.slice p1 n1 d1) ∧ V.cell? ⟨w9.heap.size, 1, none⟩ = some (.slice p2 n2 d2)) (exact al _ (by repeat (first | exact Below.refl _ _ | refine Below.drew ?_ | refine bbA _ ?_ (Nat.le_refl _) | refine bbS _ ?_ (by simp <;> omega)))) (fail)
    all_goals
      go_wp2
      go_meet
      case rel =>
        first
          | exact ⟨WA.heap.size, WA.heap.size + 1, rfl, rfl, by omega, by omega, by omega, two_first WA _ _, two_second WA _ _, by repeat (first | exact Below.refl _ _ | refine Below.drew ?_ | refine bbA _ ?_ (Nat.le_refl _) | refine bbS _ ?_ (by simp <;> omega))⟩
          | exact ⟨WA.heap.size + 1, WA.heap.size, rfl, rfl, by omega, by omega, by omega, two_second WA _ _, two_first WA _ _, by repeat (first | exact Below.refl _ _ | refine Below.drew ?_ | refine bbA _ ?_ (Nat.le_refl _) | refine bbS _ ?_ (by simp <;> omega))⟩
          | trace_state
  case rest =>
    obtain ⟨px, pw, rfl, rfl, ne, lx, lw, hx, hw, bc⟩ := hcut
    have bwc := btw b10 bc b10.size
    obtain ⟨a0, a1, a2, a3⟩ := box2 hx
    obtain ⟨q0, q1, q2, q3⟩ := box2 hw
    obtain ⟨z0, z1, v0, v1⟩ := al _ bc
    have hd := HD _ bwc p1 p2 n1 d1 n2 d2 o1 o2 sn c1 an c2 (Y1.s.below bc (Nat.le_refl _)) sp1 (Y1.a.below bc (Nat.le_refl _)) sp2 (Z1.s.below bc (Nat.le_refl _)) sz1 (Z1.a.below bc (Nat.le_refl _)) sz2
    have Z2 := Z1.below bc
    clear al HD
    go_wp2_with (first
      | (go_at_call 20; (with_reducible refine hd.mono ?_); rintro e w11 ⟨r1, r2, r3, r4, r5, r6, rfl, h1, h2, k11⟩
         have kb := box_below w11 (.cells #[.slice r1 r2 r3, .slice r4 r5 r6] 36)
         have k12 := btw k11 kb k11.size
         have b12 := btw bwc k12 bwc.size
         have Z3 := Z2.below k12
         have B3 := bv_new (c1 := r3) (c2 := r6) h1.rd h2.rd
         clear a0 a1 a2 a3 q0 q1 q2 q3 z0 z1 v0 v1 hd
         obtain ⟨z0, z1⟩ := Z3.c
         obtain ⟨v0, v1⟩ := B3.c
         have heq := eqT9 _ _ _ _ _ _ r3 _ r6 _ c1 _ c2 _ _ B3.s B3.a Z3.s Z3.a)
      | (go_at_call 18; (with_reducible refine heq.mono ?_); rintro e w13 ⟨rfl, k13⟩
         have b13 := btw b12 k13 b12.size
         clear heq))
    go_ret
    exact ⟨rfl, b13⟩

set_option maxRecDepth 20000 in
set_option maxHeartbeats 8000000 in
theorem ident_right2 (so ao : Option Addr) (sn sc an ac : Nat) (sy ay : List Int) (w : World) (hsy : Rd w so sn sy) (ssy : Sl so sn sc) (hay : Rd w ao an ay) (say : Sl ao an ac) (op : Int) (sp : ByteArray) (mb db : Bool) (r l g ei : Int) (c : Bool) (my : mayA sy ay = 0) (mf : mayF sy = 0) (zs fl : List Int) (eS : filS sy = sy) (eA : filA sy ei = fl) (e1 : -9223372036854775808 ≤ ei) (e2 : ei ≤ 9223372036854775807)
    (htu : ∀ V, Rd V so sn sy → Rd V ao an ay → Calls Tryz.prog 23 #[.int .i64 2, .agg #[.slice so sn sc, .slice ao an ac]] V fun e w' => ∃ o1 c1 o2 c2, e = .returned (.agg #[.slice o1 sn c1, .slice o2 an c2]) ∧ Ft 3 w' V.heap.size o1 sn c1 sy ∧ Ft 2 w' V.heap.size o2 an c2 zs ∧ Below V.heap.size V w')
    (HD : ∀ V (b : Below w.heap.size w V) xso xo xsn xsc xn xc uso uo usn usc un uc, Rd V xso xsn sy → Sl xso xsn xsc → Rd V xo xn zs → Sl xo xn xc → Rd V uso usn sy → Sl uso usn usc → Rd V uo un fl → Sl uo un uc → Calls Tryz.prog 20 #[.int .i64 2, .agg #[.slice xso xsn xsc, .slice xo xn xc], .agg #[.slice uso usn usc, .slice uo un uc]] V fun e w' => AnsP V 0 sy zs e w')
    (hinf : ∀ W, Calls Tryz.prog 10 #[.int .i64 2] W fun e w' => e = .returned (.tuple #[.agg #[.string sp, .bool mb, .bool db, .int .i64 r, .int .i64 l, .int .i64 g, .int .i64 ei, .bool true, .bool c], .int .i64 0]) ∧ Below W.heap.size W w') :
    Calls Tryz.prog 7 #[.int .i64 2, .agg #[.slice so sn sc, .slice ao an ac]] w fun e w' => e = .returned (.bool true) ∧ Below w.heap.size w w' := by
  have b1 := box_below w (.cells #[.slice so sn sc, .slice ao an ac] 36)
  have n1 := allocNew w (.cells #[.slice so sn sc, .slice ao an ac] 36)
  have hbg := begun9_any (w.alloc (.cells #[.slice so sn sc, .slice ao an ac] 36))
  have cM := fun V => mayA_any so ao sn sc an ac sy ay V
  rw [my] at cM
  go_enter Tryz.func7, Tryz.ntmps7
  go_upto_region 10 with (first
    | (go_at_call 8; (with_reducible refine hbg.mono ?_); rintro e w3 ⟨rfl, k3⟩
       have b3 := btw b1 k3 b1.size
       have s3 := k3.size
       rw [World.size_alloc] at s3
       have m1 := (k3.block w.heap.size (by simp)).trans n1
       clear n1 k3 hbg b1)
    | (go_at_call 10; (with_reducible refine (hinf _).mono ?_); rintro e w4 ⟨rfl, k4⟩
       have k5 := btw k4 (box_below w4 (.cells #[.string sp, .bool mb, .bool db, .int .i64 r, .int .i64 l, .int .i64 g, .int .i64 ei, .bool true, .bool c] 27)) k4.size
       have b5 := btw b3 k5 b3.size
       have s5 := k5.size
       have p1 := (k5.block w.heap.size (by omega)).trans m1
       obtain ⟨x0, x1, _, _⟩ := box2 p1
       have ibx := allocNew w4 (.cells #[.string sp, .bool mb, .bool db, .int .i64 r, .int .i64 l, .int .i64 g, .int .i64 ei, .bool true, .bool c] 27)
       obtain ⟨⟨_, _, _, _, _, _, ie, ih, ic⟩, _⟩ := bx9 ibx
       clear m1 hinf k4)
    | (go_at_call 13; (with_reducible refine (cM _ (hsy.below b5 (Nat.le_refl _)) (hay.below b5 (Nat.le_refl _))).mono ?_); rintro e w6 ⟨rfl, k6⟩
       have b6 := btw b5 k6 b5.size
       have s6 := k6.size
       have q1 := (k6.block w.heap.size (by omega)).trans p1
       have q2 := (k6.block w4.heap.size (by simp)).trans ibx
       clear x0 x1 ie ih ic p1 ibx
       obtain ⟨x0, x1, _, _⟩ := box2 q1
       obtain ⟨⟨_, _, _, _, _, _, ie, ih, ic⟩, _⟩ := bx9 q2
       clear cM)
    | (go_at_call 23; (with_reducible refine (htu _ (hsy.below b6 (Nat.le_refl _)) (hay.below b6 (Nat.le_refl _))).mono ?_); rintro e w7 ⟨o1, c1, o2, c2, rfl, f1, f2, k7⟩
       have kb7 := box_below w7 (.cells #[.slice o1 sn c1, .slice o2 an c2] 36)
       have k8 := btw k7 kb7 k7.size
       have b8 := btw b6 k8 b6.size
       have Z0 := bv_new (c1 := c1) (c2 := c2) f1.rd f2.rd
       have q3 := (k8.block w4.heap.size (Array.getElem?_eq_some_iff.1 q2).1).trans q2
       have sz1 := f1.sl
       have sz2 := f2.sl
       clear x0 x1 ie ih ic q1 q2
       obtain ⟨x0, x1⟩ := Z0.c
       obtain ⟨⟨_, _, _, _, _, _, ie, ih, ic⟩, _⟩ := bx9 q3
       have hfl := fill_any o1 sn c1 sy ei _ Z0.s sz1 e1 e2
       rw [mf, eS, eA] at hfl
       clear htu k7 kb7)
    | (go_at_call 24; (with_reducible refine hfl.mono ?_); rintro e w9 ⟨p1, n1, d1, p2, n2, d2, rfl, g1, g2, _, k9⟩
       have kb9 := box_below w9 (.cells #[.slice p1 n1 d1, .slice p2 n2 d2] 36)
       have k10 := btw k9 kb9 k9.size
       have b10 := btw b8 k10 b8.size
       have Z1 := Z0.below k10
       have Y1 := bv_new (c1 := d1) (c2 := d2) g1.rd g2.rd
       have sp1 := g1.sl
       have sp2 := g2.sl
       clear x0 x1 ie ih ic q3 Z0 hfl k9 kb9
       obtain ⟨x0, x1⟩ := Z1.c
       obtain ⟨y0, y1⟩ := Y1.c))
  have gz : w7.heap.size < (w9.alloc (.cells #[.slice p1 n1 d1, .slice p2 n2 d2] 36)).heap.size := (Array.getElem?_eq_some_iff.1 Z1.box).1
  have gy : w9.heap.size < (w9.alloc (.cells #[.slice p1 n1 d1, .slice p2 n2 d2] 36)).heap.size := (Array.getElem?_eq_some_iff.1 Y1.box).1
  generalize w9.alloc (.cells #[.slice p1 n1 d1, .slice p2 n2 d2] 36) = WA at *
  have al : ∀ V, Below WA.heap.size WA V → V.cell? ⟨w7.heap.size, 0, none⟩ = some (.slice o1 sn c1) ∧ V.cell? ⟨w7.heap.size, 1, none⟩ = some (.slice o2 an c2) ∧ V.cell? ⟨w9.heap.size, 0, none⟩ = some (.slice p1 n1 d1) ∧ V.cell? ⟨w9.heap.size, 1, none⟩ = some (.slice p2 n2 d2) := fun V B => ⟨(B.cell (p := ⟨w7.heap.size, 0, none⟩) gz).trans x0, (B.cell (p := ⟨w7.heap.size, 1, none⟩) gz).trans x1, (B.cell (p := ⟨w9.heap.size, 0, none⟩) gy).trans y0, (B.cell (p := ⟨w9.heap.size, 1, none⟩) gy).trans y1⟩
  go_cut [10, 11] (fun a b V => ∃ px pw, a = .pointer (some ⟨px, 0, none⟩) ∧ b = .pointer (some ⟨pw, 0, none⟩) ∧ px ≠ pw ∧ WA.heap.size ≤ px ∧ WA.heap.size ≤ pw ∧ V.heap[px]? = some (.cells #[.slice p1 n1 d1, .slice p2 n2 d2] 36 (0, 0)) ∧ V.heap[pw]? = some (.cells #[.slice o1 sn c1, .slice o2 an c2] 36 (0, 0)) ∧ Below WA.heap.size WA V)
  case first =>
    go_region_held3 (fun V => V.cell? ⟨w7.heap.size, 0, none⟩ = some (.slice o1 sn c1) ∧ V.cell? ⟨w7.heap.size, 1, none⟩ = some (.slice o2 an c2) ∧ V.cell? ⟨w9.heap.size, 0, none⟩ = some (.slice p1 n1 d1) ∧ V.cell? ⟨w9.heap.size, 1, none⟩ = some (.slice p2 n2 d2)) (exact al _ (by repeat (first | exact Below.refl _ _ | refine Below.drew ?_ | refine bbA _ ?_ (Nat.le_refl _) | refine bbS _ ?_ (by simp <;> omega)))) (fail)
    all_goals
      go_wp2
      go_meet
      case rel =>
        first
          | exact ⟨WA.heap.size, WA.heap.size + 1, rfl, rfl, by omega, by omega, by omega, two_first WA _ _, two_second WA _ _, by repeat (first | exact Below.refl _ _ | refine Below.drew ?_ | refine bbA _ ?_ (Nat.le_refl _) | refine bbS _ ?_ (by simp <;> omega))⟩
          | exact ⟨WA.heap.size + 1, WA.heap.size, rfl, rfl, by omega, by omega, by omega, two_second WA _ _, two_first WA _ _, by repeat (first | exact Below.refl _ _ | refine Below.drew ?_ | refine bbA _ ?_ (Nat.le_refl _) | refine bbS _ ?_ (by simp <;> omega))⟩
          | trace_state
  case rest =>
    obtain ⟨px, pw, rfl, rfl, ne, lx, lw, hx, hw, bc⟩ := hcut
    have bwc := btw b10 bc b10.size
    obtain ⟨a0, a1, a2, a3⟩ := box2 hx
    obtain ⟨q0, q1, q2, q3⟩ := box2 hw
    obtain ⟨z0, z1, v0, v1⟩ := al _ bc
    clear al
    go_wp2
    go_region
    obtain ⟨VV, hV⟩ : ∃ V, V = ((((wc.setCell ⟨px, 0, none⟩ (.slice o1 sn c1)).setCell ⟨px, 1, none⟩ (.slice o2 an c2)).setCell ⟨pw, 0, none⟩ (.slice p1 n1 d1)).setCell ⟨pw, 1, none⟩ (.slice p2 n2 d2)).drew := ⟨_, rfl⟩
    have bV : Below WA.heap.size WA VV := by rw [hV]; exact (bbS _ (bbS _ (bbS _ (bbS _ bc lx) lx) lw) lw).drew
    have i0 : VV.cell? ⟨px, 0, none⟩ = some (.slice o1 sn c1) := by rw [hV]; go_simp
    have i1 : VV.cell? ⟨px, 1, none⟩ = some (.slice o2 an c2) := by rw [hV]; go_simp
    have i2 : VV.cell? ⟨pw, 0, none⟩ = some (.slice p1 n1 d1) := by rw [hV]; go_simp
    have i3 : VV.cell? ⟨pw, 1, none⟩ = some (.slice p2 n2 d2) := by rw [hV]; go_simp
    rw [← hV]
    clear a0 a1 a2 a3 q0 q1 q2 q3 z0 z1 v0 v1 hx hw hV
    have bwv := btw b10 bV b10.size
    have hd := HD _ bwv o1 o2 sn c1 an c2 p1 p2 n1 d1 n2 d2 (Z1.s.below bV (Nat.le_refl _)) sz1 (Z1.a.below bV (Nat.le_refl _)) sz2 (Y1.s.below bV (Nat.le_refl _)) sp1 (Y1.a.below bV (Nat.le_refl _)) sp2
    have Z2 := Z1.below bV
    clear HD
    (try simp only [Exit.inBlock, Exit.then])
    go_wp2_with (first
      | (go_at_call 20; (with_reducible refine hd.mono ?_); rintro e w11 ⟨r1, r2, r3, r4, r5, r6, rfl, h1, h2, k11⟩
         have kb := box_below w11 (.cells #[.slice r1 r2 r3, .slice r4 r5 r6] 36)
         have k12 := btw k11 kb k11.size
         have b12 := btw bwv k12 bwv.size
         have Z3 := Z2.below k12
         have B3 := bv_new (c1 := r3) (c2 := r6) h1.rd h2.rd
         clear i0 i1 i2 i3 hd
         obtain ⟨z0, z1⟩ := Z3.c
         obtain ⟨v0, v1⟩ := B3.c
         have heq := eqT9 _ _ _ _ _ _ r3 _ r6 _ c1 _ c2 _ _ B3.s B3.a Z3.s Z3.a)
      | (go_at_call 18; (with_reducible refine heq.mono ?_); rintro e w13 ⟨rfl, k13⟩
         have b13 := btw b12 k13 b12.size
         clear heq))
    go_ret
    exact ⟨rfl, b13⟩

set_option maxRecDepth 20000 in
set_option maxHeartbeats 8000000 in
theorem ident_right4 (so ao : Option Addr) (sn sc an ac : Nat) (sy ay : List Int) (w : World) (hsy : Rd w so sn sy) (ssy : Sl so sn sc) (hay : Rd w ao an ay) (say : Sl ao an ac) (op : Int) (sp : ByteArray) (mb db : Bool) (r l g ei : Int) (c : Bool) (my : mayA sy ay = 0) (mf : mayF sy = 0) (zs fl : List Int) (eS : filS sy = sy) (eA : filA sy ei = fl) (e1 : -9223372036854775808 ≤ ei) (e2 : ei ≤ 9223372036854775807)
    (htu : ∀ V, Rd V so sn sy → Rd V ao an ay → Calls Tryz.prog 23 #[.int .i64 4, .agg #[.slice so sn sc, .slice ao an ac]] V fun e w' => ∃ o1 c1 o2 c2, e = .returned (.agg #[.slice o1 sn c1, .slice o2 an c2]) ∧ Ft 3 w' V.heap.size o1 sn c1 sy ∧ Ft 2 w' V.heap.size o2 an c2 zs ∧ Below V.heap.size V w')
    (HD : ∀ V (b : Below w.heap.size w V) xso xo xsn xsc xn xc uso uo usn usc un uc, Rd V xso xsn sy → Sl xso xsn xsc → Rd V xo xn zs → Sl xo xn xc → Rd V uso usn sy → Sl uso usn usc → Rd V uo un fl → Sl uo un uc → Calls Tryz.prog 20 #[.int .i64 4, .agg #[.slice xso xsn xsc, .slice xo xn xc], .agg #[.slice uso usn usc, .slice uo un uc]] V fun e w' => AnsP V 0 sy zs e w')
    (hinf : ∀ W, Calls Tryz.prog 10 #[.int .i64 4] W fun e w' => e = .returned (.tuple #[.agg #[.string sp, .bool mb, .bool db, .int .i64 r, .int .i64 l, .int .i64 g, .int .i64 ei, .bool true, .bool c], .int .i64 0]) ∧ Below W.heap.size W w') :
    Calls Tryz.prog 7 #[.int .i64 4, .agg #[.slice so sn sc, .slice ao an ac]] w fun e w' => e = .returned (.bool true) ∧ Below w.heap.size w w' := by
  have b1 := box_below w (.cells #[.slice so sn sc, .slice ao an ac] 36)
  have n1 := allocNew w (.cells #[.slice so sn sc, .slice ao an ac] 36)
  have hbg := begun9_any (w.alloc (.cells #[.slice so sn sc, .slice ao an ac] 36))
  have cM := fun V => mayA_any so ao sn sc an ac sy ay V
  rw [my] at cM
  go_enter Tryz.func7, Tryz.ntmps7
  go_upto_region 10 with (first
    | (go_at_call 8; (with_reducible refine hbg.mono ?_); rintro e w3 ⟨rfl, k3⟩
       have b3 := btw b1 k3 b1.size
       have s3 := k3.size
       rw [World.size_alloc] at s3
       have m1 := (k3.block w.heap.size (by simp)).trans n1
       clear n1 k3 hbg b1)
    | (go_at_call 10; (with_reducible refine (hinf _).mono ?_); rintro e w4 ⟨rfl, k4⟩
       have k5 := btw k4 (box_below w4 (.cells #[.string sp, .bool mb, .bool db, .int .i64 r, .int .i64 l, .int .i64 g, .int .i64 ei, .bool true, .bool c] 27)) k4.size
       have b5 := btw b3 k5 b3.size
       have s5 := k5.size
       have p1 := (k5.block w.heap.size (by omega)).trans m1
       obtain ⟨x0, x1, _, _⟩ := box2 p1
       have ibx := allocNew w4 (.cells #[.string sp, .bool mb, .bool db, .int .i64 r, .int .i64 l, .int .i64 g, .int .i64 ei, .bool true, .bool c] 27)
       obtain ⟨⟨_, _, _, _, _, _, ie, ih, ic⟩, _⟩ := bx9 ibx
       clear m1 hinf k4)
    | (go_at_call 13; (with_reducible refine (cM _ (hsy.below b5 (Nat.le_refl _)) (hay.below b5 (Nat.le_refl _))).mono ?_); rintro e w6 ⟨rfl, k6⟩
       have b6 := btw b5 k6 b5.size
       have s6 := k6.size
       have q1 := (k6.block w.heap.size (by omega)).trans p1
       have q2 := (k6.block w4.heap.size (by simp)).trans ibx
       clear x0 x1 ie ih ic p1 ibx
       obtain ⟨x0, x1, _, _⟩ := box2 q1
       obtain ⟨⟨_, _, _, _, _, _, ie, ih, ic⟩, _⟩ := bx9 q2
       clear cM)
    | (go_at_call 23; (with_reducible refine (htu _ (hsy.below b6 (Nat.le_refl _)) (hay.below b6 (Nat.le_refl _))).mono ?_); rintro e w7 ⟨o1, c1, o2, c2, rfl, f1, f2, k7⟩
       have kb7 := box_below w7 (.cells #[.slice o1 sn c1, .slice o2 an c2] 36)
       have k8 := btw k7 kb7 k7.size
       have b8 := btw b6 k8 b6.size
       have Z0 := bv_new (c1 := c1) (c2 := c2) f1.rd f2.rd
       have q3 := (k8.block w4.heap.size (Array.getElem?_eq_some_iff.1 q2).1).trans q2
       have sz1 := f1.sl
       have sz2 := f2.sl
       clear x0 x1 ie ih ic q1 q2
       obtain ⟨x0, x1⟩ := Z0.c
       obtain ⟨⟨_, _, _, _, _, _, ie, ih, ic⟩, _⟩ := bx9 q3
       have hfl := fill_any o1 sn c1 sy ei _ Z0.s sz1 e1 e2
       rw [mf, eS, eA] at hfl
       clear htu k7 kb7)
    | (go_at_call 24; (with_reducible refine hfl.mono ?_); rintro e w9 ⟨p1, n1, d1, p2, n2, d2, rfl, g1, g2, _, k9⟩
       have kb9 := box_below w9 (.cells #[.slice p1 n1 d1, .slice p2 n2 d2] 36)
       have k10 := btw k9 kb9 k9.size
       have b10 := btw b8 k10 b8.size
       have Z1 := Z0.below k10
       have Y1 := bv_new (c1 := d1) (c2 := d2) g1.rd g2.rd
       have sp1 := g1.sl
       have sp2 := g2.sl
       clear x0 x1 ie ih ic q3 Z0 hfl k9 kb9
       obtain ⟨x0, x1⟩ := Z1.c
       obtain ⟨y0, y1⟩ := Y1.c))
  have gz : w7.heap.size < (w9.alloc (.cells #[.slice p1 n1 d1, .slice p2 n2 d2] 36)).heap.size := (Array.getElem?_eq_some_iff.1 Z1.box).1
  have gy : w9.heap.size < (w9.alloc (.cells #[.slice p1 n1 d1, .slice p2 n2 d2] 36)).heap.size := (Array.getElem?_eq_some_iff.1 Y1.box).1
  generalize w9.alloc (.cells #[.slice p1 n1 d1, .slice p2 n2 d2] 36) = WA at *
  have al : ∀ V, Below WA.heap.size WA V → V.cell? ⟨w7.heap.size, 0, none⟩ = some (.slice o1 sn c1) ∧ V.cell? ⟨w7.heap.size, 1, none⟩ = some (.slice o2 an c2) ∧ V.cell? ⟨w9.heap.size, 0, none⟩ = some (.slice p1 n1 d1) ∧ V.cell? ⟨w9.heap.size, 1, none⟩ = some (.slice p2 n2 d2) := fun V B => ⟨(B.cell (p := ⟨w7.heap.size, 0, none⟩) gz).trans x0, (B.cell (p := ⟨w7.heap.size, 1, none⟩) gz).trans x1, (B.cell (p := ⟨w9.heap.size, 0, none⟩) gy).trans y0, (B.cell (p := ⟨w9.heap.size, 1, none⟩) gy).trans y1⟩
  go_cut [10, 11] (fun a b V => ∃ px pw, a = .pointer (some ⟨px, 0, none⟩) ∧ b = .pointer (some ⟨pw, 0, none⟩) ∧ px ≠ pw ∧ WA.heap.size ≤ px ∧ WA.heap.size ≤ pw ∧ V.heap[px]? = some (.cells #[.slice p1 n1 d1, .slice p2 n2 d2] 36 (0, 0)) ∧ V.heap[pw]? = some (.cells #[.slice o1 sn c1, .slice o2 an c2] 36 (0, 0)) ∧ Below WA.heap.size WA V)
  case first =>
    go_region_held3 (fun V => V.cell? ⟨w7.heap.size, 0, none⟩ = some (.slice o1 sn c1) ∧ V.cell? ⟨w7.heap.size, 1, none⟩ = some (.slice o2 an c2) ∧ V.cell? ⟨w9.heap.size, 0, none⟩ = some (.slice p1 n1 d1) ∧ V.cell? ⟨w9.heap.size, 1, none⟩ = some (.slice p2 n2 d2)) (exact al _ (by repeat (first | exact Below.refl _ _ | refine Below.drew ?_ | refine bbA _ ?_ (Nat.le_refl _) | refine bbS _ ?_ (by simp <;> omega)))) (fail)
    all_goals
      go_wp2
      go_meet
      case rel =>
        first
          | exact ⟨WA.heap.size, WA.heap.size + 1, rfl, rfl, by omega, by omega, by omega, two_first WA _ _, two_second WA _ _, by repeat (first | exact Below.refl _ _ | refine Below.drew ?_ | refine bbA _ ?_ (Nat.le_refl _) | refine bbS _ ?_ (by simp <;> omega))⟩
          | exact ⟨WA.heap.size + 1, WA.heap.size, rfl, rfl, by omega, by omega, by omega, two_second WA _ _, two_first WA _ _, by repeat (first | exact Below.refl _ _ | refine Below.drew ?_ | refine bbA _ ?_ (Nat.le_refl _) | refine bbS _ ?_ (by simp <;> omega))⟩
          | trace_state
  case rest =>
    obtain ⟨px, pw, rfl, rfl, ne, lx, lw, hx, hw, bc⟩ := hcut
    have bwc := btw b10 bc b10.size
    obtain ⟨a0, a1, a2, a3⟩ := box2 hx
    obtain ⟨q0, q1, q2, q3⟩ := box2 hw
    obtain ⟨z0, z1, v0, v1⟩ := al _ bc
    clear al
    go_wp2
    go_region
    obtain ⟨VV, hV⟩ : ∃ V, V = ((((wc.setCell ⟨px, 0, none⟩ (.slice o1 sn c1)).setCell ⟨px, 1, none⟩ (.slice o2 an c2)).setCell ⟨pw, 0, none⟩ (.slice p1 n1 d1)).setCell ⟨pw, 1, none⟩ (.slice p2 n2 d2)).drew := ⟨_, rfl⟩
    have bV : Below WA.heap.size WA VV := by rw [hV]; exact (bbS _ (bbS _ (bbS _ (bbS _ bc lx) lx) lw) lw).drew
    have i0 : VV.cell? ⟨px, 0, none⟩ = some (.slice o1 sn c1) := by rw [hV]; go_simp
    have i1 : VV.cell? ⟨px, 1, none⟩ = some (.slice o2 an c2) := by rw [hV]; go_simp
    have i2 : VV.cell? ⟨pw, 0, none⟩ = some (.slice p1 n1 d1) := by rw [hV]; go_simp
    have i3 : VV.cell? ⟨pw, 1, none⟩ = some (.slice p2 n2 d2) := by rw [hV]; go_simp
    rw [← hV]
    clear a0 a1 a2 a3 q0 q1 q2 q3 z0 z1 v0 v1 hx hw hV
    have bwv := btw b10 bV b10.size
    have hd := HD _ bwv o1 o2 sn c1 an c2 p1 p2 n1 d1 n2 d2 (Z1.s.below bV (Nat.le_refl _)) sz1 (Z1.a.below bV (Nat.le_refl _)) sz2 (Y1.s.below bV (Nat.le_refl _)) sp1 (Y1.a.below bV (Nat.le_refl _)) sp2
    have Z2 := Z1.below bV
    clear HD
    (try simp only [Exit.inBlock, Exit.then])
    go_wp2_with (first
      | (go_at_call 20; (with_reducible refine hd.mono ?_); rintro e w11 ⟨r1, r2, r3, r4, r5, r6, rfl, h1, h2, k11⟩
         have kb := box_below w11 (.cells #[.slice r1 r2 r3, .slice r4 r5 r6] 36)
         have k12 := btw k11 kb k11.size
         have b12 := btw bwv k12 bwv.size
         have Z3 := Z2.below k12
         have B3 := bv_new (c1 := r3) (c2 := r6) h1.rd h2.rd
         clear i0 i1 i2 i3 hd
         obtain ⟨z0, z1⟩ := Z3.c
         obtain ⟨v0, v1⟩ := B3.c
         have heq := eqT9 _ _ _ _ _ _ r3 _ r6 _ c1 _ c2 _ _ B3.s B3.a Z3.s Z3.a)
      | (go_at_call 18; (with_reducible refine heq.mono ?_); rintro e w13 ⟨rfl, k13⟩
         have b13 := btw b12 k13 b12.size
         clear heq))
    go_ret
    exact ⟨rfl, b13⟩

set_option maxRecDepth 20000 in
set_option maxHeartbeats 8000000 in
theorem ident_right9 (so ao : Option Addr) (sn sc an ac : Nat) (sy ay : List Int) (w : World) (hsy : Rd w so sn sy) (ssy : Sl so sn sc) (hay : Rd w ao an ay) (say : Sl ao an ac) (op : Int) (sp : ByteArray) (mb db : Bool) (r l g ei : Int) (c : Bool) (my : mayA sy ay = 0) (mf : mayF sy = 0) (zs fl : List Int) (eS : filS sy = sy) (eA : filA sy ei = fl) (e1 : -9223372036854775808 ≤ ei) (e2 : ei ≤ 9223372036854775807)
    (htu : ∀ V, Rd V so sn sy → Rd V ao an ay → Calls Tryz.prog 23 #[.int .i64 9, .agg #[.slice so sn sc, .slice ao an ac]] V fun e w' => ∃ o1 c1 o2 c2, e = .returned (.agg #[.slice o1 sn c1, .slice o2 an c2]) ∧ Ft 3 w' V.heap.size o1 sn c1 sy ∧ Ft 2 w' V.heap.size o2 an c2 zs ∧ Below V.heap.size V w')
    (HD : ∀ V (b : Below w.heap.size w V) xso xo xsn xsc xn xc uso uo usn usc un uc, Rd V xso xsn sy → Sl xso xsn xsc → Rd V xo xn zs → Sl xo xn xc → Rd V uso usn sy → Sl uso usn usc → Rd V uo un fl → Sl uo un uc → Calls Tryz.prog 20 #[.int .i64 9, .agg #[.slice xso xsn xsc, .slice xo xn xc], .agg #[.slice uso usn usc, .slice uo un uc]] V fun e w' => AnsP V 0 sy zs e w')
    (hinf : ∀ W, Calls Tryz.prog 10 #[.int .i64 9] W fun e w' => e = .returned (.tuple #[.agg #[.string sp, .bool mb, .bool db, .int .i64 r, .int .i64 l, .int .i64 g, .int .i64 ei, .bool true, .bool c], .int .i64 0]) ∧ Below W.heap.size W w') :
    Calls Tryz.prog 7 #[.int .i64 9, .agg #[.slice so sn sc, .slice ao an ac]] w fun e w' => e = .returned (.bool true) ∧ Below w.heap.size w w' := by
  have b1 := box_below w (.cells #[.slice so sn sc, .slice ao an ac] 36)
  have n1 := allocNew w (.cells #[.slice so sn sc, .slice ao an ac] 36)
  have hbg := begun9_any (w.alloc (.cells #[.slice so sn sc, .slice ao an ac] 36))
  have cM := fun V => mayA_any so ao sn sc an ac sy ay V
  rw [my] at cM
  go_enter Tryz.func7, Tryz.ntmps7
  go_upto_region 10 with (first
    | (go_at_call 8; (with_reducible refine hbg.mono ?_); rintro e w3 ⟨rfl, k3⟩
       have b3 := btw b1 k3 b1.size
       have s3 := k3.size
       rw [World.size_alloc] at s3
       have m1 := (k3.block w.heap.size (by simp)).trans n1
       clear n1 k3 hbg b1)
    | (go_at_call 10; (with_reducible refine (hinf _).mono ?_); rintro e w4 ⟨rfl, k4⟩
       have k5 := btw k4 (box_below w4 (.cells #[.string sp, .bool mb, .bool db, .int .i64 r, .int .i64 l, .int .i64 g, .int .i64 ei, .bool true, .bool c] 27)) k4.size
       have b5 := btw b3 k5 b3.size
       have s5 := k5.size
       have p1 := (k5.block w.heap.size (by omega)).trans m1
       obtain ⟨x0, x1, _, _⟩ := box2 p1
       have ibx := allocNew w4 (.cells #[.string sp, .bool mb, .bool db, .int .i64 r, .int .i64 l, .int .i64 g, .int .i64 ei, .bool true, .bool c] 27)
       obtain ⟨⟨_, _, _, _, _, _, ie, ih, ic⟩, _⟩ := bx9 ibx
       clear m1 hinf k4)
    | (go_at_call 13; (with_reducible refine (cM _ (hsy.below b5 (Nat.le_refl _)) (hay.below b5 (Nat.le_refl _))).mono ?_); rintro e w6 ⟨rfl, k6⟩
       have b6 := btw b5 k6 b5.size
       have s6 := k6.size
       have q1 := (k6.block w.heap.size (by omega)).trans p1
       have q2 := (k6.block w4.heap.size (by simp)).trans ibx
       clear x0 x1 ie ih ic p1 ibx
       obtain ⟨x0, x1, _, _⟩ := box2 q1
       obtain ⟨⟨_, _, _, _, _, _, ie, ih, ic⟩, _⟩ := bx9 q2
       clear cM)
    | (go_at_call 23; (with_reducible refine (htu _ (hsy.below b6 (Nat.le_refl _)) (hay.below b6 (Nat.le_refl _))).mono ?_); rintro e w7 ⟨o1, c1, o2, c2, rfl, f1, f2, k7⟩
       have kb7 := box_below w7 (.cells #[.slice o1 sn c1, .slice o2 an c2] 36)
       have k8 := btw k7 kb7 k7.size
       have b8 := btw b6 k8 b6.size
       have Z0 := bv_new (c1 := c1) (c2 := c2) f1.rd f2.rd
       have q3 := (k8.block w4.heap.size (Array.getElem?_eq_some_iff.1 q2).1).trans q2
       have sz1 := f1.sl
       have sz2 := f2.sl
       clear x0 x1 ie ih ic q1 q2
       obtain ⟨x0, x1⟩ := Z0.c
       obtain ⟨⟨_, _, _, _, _, _, ie, ih, ic⟩, _⟩ := bx9 q3
       have hfl := fill_any o1 sn c1 sy ei _ Z0.s sz1 e1 e2
       rw [mf, eS, eA] at hfl
       clear htu k7 kb7)
    | (go_at_call 24; (with_reducible refine hfl.mono ?_); rintro e w9 ⟨p1, n1, d1, p2, n2, d2, rfl, g1, g2, _, k9⟩
       have kb9 := box_below w9 (.cells #[.slice p1 n1 d1, .slice p2 n2 d2] 36)
       have k10 := btw k9 kb9 k9.size
       have b10 := btw b8 k10 b8.size
       have Z1 := Z0.below k10
       have Y1 := bv_new (c1 := d1) (c2 := d2) g1.rd g2.rd
       have sp1 := g1.sl
       have sp2 := g2.sl
       clear x0 x1 ie ih ic q3 Z0 hfl k9 kb9
       obtain ⟨x0, x1⟩ := Z1.c
       obtain ⟨y0, y1⟩ := Y1.c))
  have gz : w7.heap.size < (w9.alloc (.cells #[.slice p1 n1 d1, .slice p2 n2 d2] 36)).heap.size := (Array.getElem?_eq_some_iff.1 Z1.box).1
  have gy : w9.heap.size < (w9.alloc (.cells #[.slice p1 n1 d1, .slice p2 n2 d2] 36)).heap.size := (Array.getElem?_eq_some_iff.1 Y1.box).1
  generalize w9.alloc (.cells #[.slice p1 n1 d1, .slice p2 n2 d2] 36) = WA at *
  have al : ∀ V, Below WA.heap.size WA V → V.cell? ⟨w7.heap.size, 0, none⟩ = some (.slice o1 sn c1) ∧ V.cell? ⟨w7.heap.size, 1, none⟩ = some (.slice o2 an c2) ∧ V.cell? ⟨w9.heap.size, 0, none⟩ = some (.slice p1 n1 d1) ∧ V.cell? ⟨w9.heap.size, 1, none⟩ = some (.slice p2 n2 d2) := fun V B => ⟨(B.cell (p := ⟨w7.heap.size, 0, none⟩) gz).trans x0, (B.cell (p := ⟨w7.heap.size, 1, none⟩) gz).trans x1, (B.cell (p := ⟨w9.heap.size, 0, none⟩) gy).trans y0, (B.cell (p := ⟨w9.heap.size, 1, none⟩) gy).trans y1⟩
  go_cut [10, 11] (fun a b V => ∃ px pw, a = .pointer (some ⟨px, 0, none⟩) ∧ b = .pointer (some ⟨pw, 0, none⟩) ∧ px ≠ pw ∧ WA.heap.size ≤ px ∧ WA.heap.size ≤ pw ∧ V.heap[px]? = some (.cells #[.slice p1 n1 d1, .slice p2 n2 d2] 36 (0, 0)) ∧ V.heap[pw]? = some (.cells #[.slice o1 sn c1, .slice o2 an c2] 36 (0, 0)) ∧ Below WA.heap.size WA V)
  case first =>
    go_region_held3 (fun V => V.cell? ⟨w7.heap.size, 0, none⟩ = some (.slice o1 sn c1) ∧ V.cell? ⟨w7.heap.size, 1, none⟩ = some (.slice o2 an c2) ∧ V.cell? ⟨w9.heap.size, 0, none⟩ = some (.slice p1 n1 d1) ∧ V.cell? ⟨w9.heap.size, 1, none⟩ = some (.slice p2 n2 d2)) (exact al _ (by repeat (first | exact Below.refl _ _ | refine Below.drew ?_ | refine bbA _ ?_ (Nat.le_refl _) | refine bbS _ ?_ (by simp <;> omega)))) (fail)
    all_goals
      go_wp2
      go_meet
      case rel =>
        first
          | exact ⟨WA.heap.size, WA.heap.size + 1, rfl, rfl, by omega, by omega, by omega, two_first WA _ _, two_second WA _ _, by repeat (first | exact Below.refl _ _ | refine Below.drew ?_ | refine bbA _ ?_ (Nat.le_refl _) | refine bbS _ ?_ (by simp <;> omega))⟩
          | exact ⟨WA.heap.size + 1, WA.heap.size, rfl, rfl, by omega, by omega, by omega, two_second WA _ _, two_first WA _ _, by repeat (first | exact Below.refl _ _ | refine Below.drew ?_ | refine bbA _ ?_ (Nat.le_refl _) | refine bbS _ ?_ (by simp <;> omega))⟩
          | trace_state
  case rest =>
    obtain ⟨px, pw, rfl, rfl, ne, lx, lw, hx, hw, bc⟩ := hcut
    have bwc := btw b10 bc b10.size
    obtain ⟨a0, a1, a2, a3⟩ := box2 hx
    obtain ⟨q0, q1, q2, q3⟩ := box2 hw
    obtain ⟨z0, z1, v0, v1⟩ := al _ bc
    clear al
    go_wp2
    go_region
    obtain ⟨VV, hV⟩ : ∃ V, V = ((((wc.setCell ⟨px, 0, none⟩ (.slice o1 sn c1)).setCell ⟨px, 1, none⟩ (.slice o2 an c2)).setCell ⟨pw, 0, none⟩ (.slice p1 n1 d1)).setCell ⟨pw, 1, none⟩ (.slice p2 n2 d2)).drew := ⟨_, rfl⟩
    have bV : Below WA.heap.size WA VV := by rw [hV]; exact (bbS _ (bbS _ (bbS _ (bbS _ bc lx) lx) lw) lw).drew
    have i0 : VV.cell? ⟨px, 0, none⟩ = some (.slice o1 sn c1) := by rw [hV]; go_simp
    have i1 : VV.cell? ⟨px, 1, none⟩ = some (.slice o2 an c2) := by rw [hV]; go_simp
    have i2 : VV.cell? ⟨pw, 0, none⟩ = some (.slice p1 n1 d1) := by rw [hV]; go_simp
    have i3 : VV.cell? ⟨pw, 1, none⟩ = some (.slice p2 n2 d2) := by rw [hV]; go_simp
    rw [← hV]
    clear a0 a1 a2 a3 q0 q1 q2 q3 z0 z1 v0 v1 hx hw hV
    have bwv := btw b10 bV b10.size
    have hd := HD _ bwv o1 o2 sn c1 an c2 p1 p2 n1 d1 n2 d2 (Z1.s.below bV (Nat.le_refl _)) sz1 (Z1.a.below bV (Nat.le_refl _)) sz2 (Y1.s.below bV (Nat.le_refl _)) sp1 (Y1.a.below bV (Nat.le_refl _)) sp2
    have Z2 := Z1.below bV
    clear HD
    (try simp only [Exit.inBlock, Exit.then])
    go_wp2_with (first
      | (go_at_call 20; (with_reducible refine hd.mono ?_); rintro e w11 ⟨r1, r2, r3, r4, r5, r6, rfl, h1, h2, k11⟩
         have kb := box_below w11 (.cells #[.slice r1 r2 r3, .slice r4 r5 r6] 36)
         have k12 := btw k11 kb k11.size
         have b12 := btw bwv k12 bwv.size
         have Z3 := Z2.below k12
         have B3 := bv_new (c1 := r3) (c2 := r6) h1.rd h2.rd
         clear i0 i1 i2 i3 hd
         obtain ⟨z0, z1⟩ := Z3.c
         obtain ⟨v0, v1⟩ := B3.c
         have heq := eqT9 _ _ _ _ _ _ r3 _ r6 _ c1 _ c2 _ _ B3.s B3.a Z3.s Z3.a)
      | (go_at_call 18; (with_reducible refine heq.mono ?_); rintro e w13 ⟨rfl, k13⟩
         have b13 := btw b12 k13 b12.size
         clear heq))
    go_ret
    exact ⟨rfl, b13⟩

set_option maxRecDepth 20000 in
set_option maxHeartbeats 8000000 in
theorem ident_right13 (so ao : Option Addr) (sn sc an ac : Nat) (sy ay : List Int) (w : World) (hsy : Rd w so sn sy) (ssy : Sl so sn sc) (hay : Rd w ao an ay) (say : Sl ao an ac) (op : Int) (sp : ByteArray) (mb db : Bool) (r l g ei : Int) (c : Bool) (my : mayA sy ay = 0) (mf : mayF sy = 0) (zs fl : List Int) (eS : filS sy = sy) (eA : filA sy ei = fl) (e1 : -9223372036854775808 ≤ ei) (e2 : ei ≤ 9223372036854775807)
    (htu : ∀ V, Rd V so sn sy → Rd V ao an ay → Calls Tryz.prog 23 #[.int .i64 13, .agg #[.slice so sn sc, .slice ao an ac]] V fun e w' => ∃ o1 c1 o2 c2, e = .returned (.agg #[.slice o1 sn c1, .slice o2 an c2]) ∧ Ft 3 w' V.heap.size o1 sn c1 sy ∧ Ft 2 w' V.heap.size o2 an c2 zs ∧ Below V.heap.size V w')
    (HD : ∀ V (b : Below w.heap.size w V) xso xo xsn xsc xn xc uso uo usn usc un uc, Rd V xso xsn sy → Sl xso xsn xsc → Rd V xo xn zs → Sl xo xn xc → Rd V uso usn sy → Sl uso usn usc → Rd V uo un fl → Sl uo un uc → Calls Tryz.prog 20 #[.int .i64 13, .agg #[.slice xso xsn xsc, .slice xo xn xc], .agg #[.slice uso usn usc, .slice uo un uc]] V fun e w' => AnsP V 0 sy zs e w')
    (hinf : ∀ W, Calls Tryz.prog 10 #[.int .i64 13] W fun e w' => e = .returned (.tuple #[.agg #[.string sp, .bool mb, .bool db, .int .i64 r, .int .i64 l, .int .i64 g, .int .i64 ei, .bool true, .bool c], .int .i64 0]) ∧ Below W.heap.size W w') :
    Calls Tryz.prog 7 #[.int .i64 13, .agg #[.slice so sn sc, .slice ao an ac]] w fun e w' => e = .returned (.bool true) ∧ Below w.heap.size w w' := by
  have b1 := box_below w (.cells #[.slice so sn sc, .slice ao an ac] 36)
  have n1 := allocNew w (.cells #[.slice so sn sc, .slice ao an ac] 36)
  have hbg := begun9_any (w.alloc (.cells #[.slice so sn sc, .slice ao an ac] 36))
  have cM := fun V => mayA_any so ao sn sc an ac sy ay V
  rw [my] at cM
  go_enter Tryz.func7, Tryz.ntmps7
  go_upto_region 10 with (first
    | (go_at_call 8; (with_reducible refine hbg.mono ?_); rintro e w3 ⟨rfl, k3⟩
       have b3 := btw b1 k3 b1.size
       have s3 := k3.size
       rw [World.size_alloc] at s3
       have m1 := (k3.block w.heap.size (by simp)).trans n1
       clear n1 k3 hbg b1)
    | (go_at_call 10; (with_reducible refine (hinf _).mono ?_); rintro e w4 ⟨rfl, k4⟩
       have k5 := btw k4 (box_below w4 (.cells #[.string sp, .bool mb, .bool db, .int .i64 r, .int .i64 l, .int .i64 g, .int .i64 ei, .bool true, .bool c] 27)) k4.size
       have b5 := btw b3 k5 b3.size
       have s5 := k5.size
       have p1 := (k5.block w.heap.size (by omega)).trans m1
       obtain ⟨x0, x1, _, _⟩ := box2 p1
       have ibx := allocNew w4 (.cells #[.string sp, .bool mb, .bool db, .int .i64 r, .int .i64 l, .int .i64 g, .int .i64 ei, .bool true, .bool c] 27)
       obtain ⟨⟨_, _, _, _, _, _, ie, ih, ic⟩, _⟩ := bx9 ibx
       clear m1 hinf k4)
    | (go_at_call 13; (with_reducible refine (cM _ (hsy.below b5 (Nat.le_refl _)) (hay.below b5 (Nat.le_refl _))).mono ?_); rintro e w6 ⟨rfl, k6⟩
       have b6 := btw b5 k6 b5.size
       have s6 := k6.size
       have q1 := (k6.block w.heap.size (by omega)).trans p1
       have q2 := (k6.block w4.heap.size (by simp)).trans ibx
       clear x0 x1 ie ih ic p1 ibx
       obtain ⟨x0, x1, _, _⟩ := box2 q1
       obtain ⟨⟨_, _, _, _, _, _, ie, ih, ic⟩, _⟩ := bx9 q2
       clear cM)
    | (go_at_call 23; (with_reducible refine (htu _ (hsy.below b6 (Nat.le_refl _)) (hay.below b6 (Nat.le_refl _))).mono ?_); rintro e w7 ⟨o1, c1, o2, c2, rfl, f1, f2, k7⟩
       have kb7 := box_below w7 (.cells #[.slice o1 sn c1, .slice o2 an c2] 36)
       have k8 := btw k7 kb7 k7.size
       have b8 := btw b6 k8 b6.size
       have Z0 := bv_new (c1 := c1) (c2 := c2) f1.rd f2.rd
       have q3 := (k8.block w4.heap.size (Array.getElem?_eq_some_iff.1 q2).1).trans q2
       have sz1 := f1.sl
       have sz2 := f2.sl
       clear x0 x1 ie ih ic q1 q2
       obtain ⟨x0, x1⟩ := Z0.c
       obtain ⟨⟨_, _, _, _, _, _, ie, ih, ic⟩, _⟩ := bx9 q3
       have hfl := fill_any o1 sn c1 sy ei _ Z0.s sz1 e1 e2
       rw [mf, eS, eA] at hfl
       clear htu k7 kb7)
    | (go_at_call 24; (with_reducible refine hfl.mono ?_); rintro e w9 ⟨p1, n1, d1, p2, n2, d2, rfl, g1, g2, _, k9⟩
       have kb9 := box_below w9 (.cells #[.slice p1 n1 d1, .slice p2 n2 d2] 36)
       have k10 := btw k9 kb9 k9.size
       have b10 := btw b8 k10 b8.size
       have Z1 := Z0.below k10
       have Y1 := bv_new (c1 := d1) (c2 := d2) g1.rd g2.rd
       have sp1 := g1.sl
       have sp2 := g2.sl
       clear x0 x1 ie ih ic q3 Z0 hfl k9 kb9
       obtain ⟨x0, x1⟩ := Z1.c
       obtain ⟨y0, y1⟩ := Y1.c))
  have gz : w7.heap.size < (w9.alloc (.cells #[.slice p1 n1 d1, .slice p2 n2 d2] 36)).heap.size := (Array.getElem?_eq_some_iff.1 Z1.box).1
  have gy : w9.heap.size < (w9.alloc (.cells #[.slice p1 n1 d1, .slice p2 n2 d2] 36)).heap.size := (Array.getElem?_eq_some_iff.1 Y1.box).1
  generalize w9.alloc (.cells #[.slice p1 n1 d1, .slice p2 n2 d2] 36) = WA at *
  have al : ∀ V, Below WA.heap.size WA V → V.cell? ⟨w7.heap.size, 0, none⟩ = some (.slice o1 sn c1) ∧ V.cell? ⟨w7.heap.size, 1, none⟩ = some (.slice o2 an c2) ∧ V.cell? ⟨w9.heap.size, 0, none⟩ = some (.slice p1 n1 d1) ∧ V.cell? ⟨w9.heap.size, 1, none⟩ = some (.slice p2 n2 d2) := fun V B => ⟨(B.cell (p := ⟨w7.heap.size, 0, none⟩) gz).trans x0, (B.cell (p := ⟨w7.heap.size, 1, none⟩) gz).trans x1, (B.cell (p := ⟨w9.heap.size, 0, none⟩) gy).trans y0, (B.cell (p := ⟨w9.heap.size, 1, none⟩) gy).trans y1⟩
  go_cut [10, 11] (fun a b V => ∃ px pw, a = .pointer (some ⟨px, 0, none⟩) ∧ b = .pointer (some ⟨pw, 0, none⟩) ∧ px ≠ pw ∧ WA.heap.size ≤ px ∧ WA.heap.size ≤ pw ∧ V.heap[px]? = some (.cells #[.slice p1 n1 d1, .slice p2 n2 d2] 36 (0, 0)) ∧ V.heap[pw]? = some (.cells #[.slice o1 sn c1, .slice o2 an c2] 36 (0, 0)) ∧ Below WA.heap.size WA V)
  case first =>
    go_region_held3 (fun V => V.cell? ⟨w7.heap.size, 0, none⟩ = some (.slice o1 sn c1) ∧ V.cell? ⟨w7.heap.size, 1, none⟩ = some (.slice o2 an c2) ∧ V.cell? ⟨w9.heap.size, 0, none⟩ = some (.slice p1 n1 d1) ∧ V.cell? ⟨w9.heap.size, 1, none⟩ = some (.slice p2 n2 d2)) (exact al _ (by repeat (first | exact Below.refl _ _ | refine Below.drew ?_ | refine bbA _ ?_ (Nat.le_refl _) | refine bbS _ ?_ (by simp <;> omega)))) (fail)
    all_goals
      go_wp2
      go_meet
      case rel =>
        first
          | exact ⟨WA.heap.size, WA.heap.size + 1, rfl, rfl, by omega, by omega, by omega, two_first WA _ _, two_second WA _ _, by repeat (first | exact Below.refl _ _ | refine Below.drew ?_ | refine bbA _ ?_ (Nat.le_refl _) | refine bbS _ ?_ (by simp <;> omega))⟩
          | exact ⟨WA.heap.size + 1, WA.heap.size, rfl, rfl, by omega, by omega, by omega, two_second WA _ _, two_first WA _ _, by repeat (first | exact Below.refl _ _ | refine Below.drew ?_ | refine bbA _ ?_ (Nat.le_refl _) | refine bbS _ ?_ (by simp <;> omega))⟩
          | trace_state
  case rest =>
    obtain ⟨px, pw, rfl, rfl, ne, lx, lw, hx, hw, bc⟩ := hcut
    have bwc := btw b10 bc b10.size
    obtain ⟨a0, a1, a2, a3⟩ := box2 hx
    obtain ⟨q0, q1, q2, q3⟩ := box2 hw
    obtain ⟨z0, z1, v0, v1⟩ := al _ bc
    clear al
    go_wp2
    go_region
    obtain ⟨VV, hV⟩ : ∃ V, V = ((((wc.setCell ⟨px, 0, none⟩ (.slice o1 sn c1)).setCell ⟨px, 1, none⟩ (.slice o2 an c2)).setCell ⟨pw, 0, none⟩ (.slice p1 n1 d1)).setCell ⟨pw, 1, none⟩ (.slice p2 n2 d2)).drew := ⟨_, rfl⟩
    have bV : Below WA.heap.size WA VV := by rw [hV]; exact (bbS _ (bbS _ (bbS _ (bbS _ bc lx) lx) lw) lw).drew
    have i0 : VV.cell? ⟨px, 0, none⟩ = some (.slice o1 sn c1) := by rw [hV]; go_simp
    have i1 : VV.cell? ⟨px, 1, none⟩ = some (.slice o2 an c2) := by rw [hV]; go_simp
    have i2 : VV.cell? ⟨pw, 0, none⟩ = some (.slice p1 n1 d1) := by rw [hV]; go_simp
    have i3 : VV.cell? ⟨pw, 1, none⟩ = some (.slice p2 n2 d2) := by rw [hV]; go_simp
    rw [← hV]
    clear a0 a1 a2 a3 q0 q1 q2 q3 z0 z1 v0 v1 hx hw hV
    have bwv := btw b10 bV b10.size
    have hd := HD _ bwv o1 o2 sn c1 an c2 p1 p2 n1 d1 n2 d2 (Z1.s.below bV (Nat.le_refl _)) sz1 (Z1.a.below bV (Nat.le_refl _)) sz2 (Y1.s.below bV (Nat.le_refl _)) sp1 (Y1.a.below bV (Nat.le_refl _)) sp2
    have Z2 := Z1.below bV
    clear HD
    (try simp only [Exit.inBlock, Exit.then])
    go_wp2_with (first
      | (go_at_call 20; (with_reducible refine hd.mono ?_); rintro e w11 ⟨r1, r2, r3, r4, r5, r6, rfl, h1, h2, k11⟩
         have kb := box_below w11 (.cells #[.slice r1 r2 r3, .slice r4 r5 r6] 36)
         have k12 := btw k11 kb k11.size
         have b12 := btw bwv k12 bwv.size
         have Z3 := Z2.below k12
         have B3 := bv_new (c1 := r3) (c2 := r6) h1.rd h2.rd
         clear i0 i1 i2 i3 hd
         obtain ⟨z0, z1⟩ := Z3.c
         obtain ⟨v0, v1⟩ := B3.c
         have heq := eqT9 _ _ _ _ _ _ r3 _ r6 _ c1 _ c2 _ _ B3.s B3.a Z3.s Z3.a)
      | (go_at_call 18; (with_reducible refine heq.mono ?_); rintro e w13 ⟨rfl, k13⟩
         have b13 := btw b12 k13 b12.size
         clear heq))
    go_ret
    exact ⟨rfl, b13⟩

set_option maxRecDepth 20000 in
set_option maxHeartbeats 8000000 in
theorem ident_right20 (so ao : Option Addr) (sn sc an ac : Nat) (sy ay : List Int) (w : World) (hsy : Rd w so sn sy) (ssy : Sl so sn sc) (hay : Rd w ao an ay) (say : Sl ao an ac) (op : Int) (sp : ByteArray) (mb db : Bool) (r l g ei : Int) (c : Bool) (my : mayA sy ay = 0) (mf : mayF sy = 0) (zs fl : List Int) (eS : filS sy = sy) (eA : filA sy ei = fl) (e1 : -9223372036854775808 ≤ ei) (e2 : ei ≤ 9223372036854775807)
    (htu : ∀ V, Rd V so sn sy → Rd V ao an ay → Calls Tryz.prog 23 #[.int .i64 20, .agg #[.slice so sn sc, .slice ao an ac]] V fun e w' => ∃ o1 c1 o2 c2, e = .returned (.agg #[.slice o1 sn c1, .slice o2 an c2]) ∧ Ft 3 w' V.heap.size o1 sn c1 sy ∧ Ft 2 w' V.heap.size o2 an c2 zs ∧ Below V.heap.size V w')
    (HD : ∀ V (b : Below w.heap.size w V) xso xo xsn xsc xn xc uso uo usn usc un uc, Rd V xso xsn sy → Sl xso xsn xsc → Rd V xo xn zs → Sl xo xn xc → Rd V uso usn sy → Sl uso usn usc → Rd V uo un fl → Sl uo un uc → Calls Tryz.prog 20 #[.int .i64 20, .agg #[.slice xso xsn xsc, .slice xo xn xc], .agg #[.slice uso usn usc, .slice uo un uc]] V fun e w' => AnsP V 0 sy zs e w')
    (hinf : ∀ W, Calls Tryz.prog 10 #[.int .i64 20] W fun e w' => e = .returned (.tuple #[.agg #[.string sp, .bool mb, .bool db, .int .i64 r, .int .i64 l, .int .i64 g, .int .i64 ei, .bool true, .bool c], .int .i64 0]) ∧ Below W.heap.size W w') :
    Calls Tryz.prog 7 #[.int .i64 20, .agg #[.slice so sn sc, .slice ao an ac]] w fun e w' => e = .returned (.bool true) ∧ Below w.heap.size w w' := by
  have b1 := box_below w (.cells #[.slice so sn sc, .slice ao an ac] 36)
  have n1 := allocNew w (.cells #[.slice so sn sc, .slice ao an ac] 36)
  have hbg := begun9_any (w.alloc (.cells #[.slice so sn sc, .slice ao an ac] 36))
  have cM := fun V => mayA_any so ao sn sc an ac sy ay V
  rw [my] at cM
  go_enter Tryz.func7, Tryz.ntmps7
  go_upto_region 10 with (first
    | (go_at_call 8; (with_reducible refine hbg.mono ?_); rintro e w3 ⟨rfl, k3⟩
       have b3 := btw b1 k3 b1.size
       have s3 := k3.size
       rw [World.size_alloc] at s3
       have m1 := (k3.block w.heap.size (by simp)).trans n1
       clear n1 k3 hbg b1)
    | (go_at_call 10; (with_reducible refine (hinf _).mono ?_); rintro e w4 ⟨rfl, k4⟩
       have k5 := btw k4 (box_below w4 (.cells #[.string sp, .bool mb, .bool db, .int .i64 r, .int .i64 l, .int .i64 g, .int .i64 ei, .bool true, .bool c] 27)) k4.size
       have b5 := btw b3 k5 b3.size
       have s5 := k5.size
       have p1 := (k5.block w.heap.size (by omega)).trans m1
       obtain ⟨x0, x1, _, _⟩ := box2 p1
       have ibx := allocNew w4 (.cells #[.string sp, .bool mb, .bool db, .int .i64 r, .int .i64 l, .int .i64 g, .int .i64 ei, .bool true, .bool c] 27)
       obtain ⟨⟨_, _, _, _, _, _, ie, ih, ic⟩, _⟩ := bx9 ibx
       clear m1 hinf k4)
    | (go_at_call 13; (with_reducible refine (cM _ (hsy.below b5 (Nat.le_refl _)) (hay.below b5 (Nat.le_refl _))).mono ?_); rintro e w6 ⟨rfl, k6⟩
       have b6 := btw b5 k6 b5.size
       have s6 := k6.size
       have q1 := (k6.block w.heap.size (by omega)).trans p1
       have q2 := (k6.block w4.heap.size (by simp)).trans ibx
       clear x0 x1 ie ih ic p1 ibx
       obtain ⟨x0, x1, _, _⟩ := box2 q1
       obtain ⟨⟨_, _, _, _, _, _, ie, ih, ic⟩, _⟩ := bx9 q2
       clear cM)
    | (go_at_call 23; (with_reducible refine (htu _ (hsy.below b6 (Nat.le_refl _)) (hay.below b6 (Nat.le_refl _))).mono ?_); rintro e w7 ⟨o1, c1, o2, c2, rfl, f1, f2, k7⟩
       have kb7 := box_below w7 (.cells #[.slice o1 sn c1, .slice o2 an c2] 36)
       have k8 := btw k7 kb7 k7.size
       have b8 := btw b6 k8 b6.size
       have Z0 := bv_new (c1 := c1) (c2 := c2) f1.rd f2.rd
       have q3 := (k8.block w4.heap.size (Array.getElem?_eq_some_iff.1 q2).1).trans q2
       have sz1 := f1.sl
       have sz2 := f2.sl
       clear x0 x1 ie ih ic q1 q2
       obtain ⟨x0, x1⟩ := Z0.c
       obtain ⟨⟨_, _, _, _, _, _, ie, ih, ic⟩, _⟩ := bx9 q3
       have hfl := fill_any o1 sn c1 sy ei _ Z0.s sz1 e1 e2
       rw [mf, eS, eA] at hfl
       clear htu k7 kb7)
    | (go_at_call 24; (with_reducible refine hfl.mono ?_); rintro e w9 ⟨p1, n1, d1, p2, n2, d2, rfl, g1, g2, _, k9⟩
       have kb9 := box_below w9 (.cells #[.slice p1 n1 d1, .slice p2 n2 d2] 36)
       have k10 := btw k9 kb9 k9.size
       have b10 := btw b8 k10 b8.size
       have Z1 := Z0.below k10
       have Y1 := bv_new (c1 := d1) (c2 := d2) g1.rd g2.rd
       have sp1 := g1.sl
       have sp2 := g2.sl
       clear x0 x1 ie ih ic q3 Z0 hfl k9 kb9
       obtain ⟨x0, x1⟩ := Z1.c
       obtain ⟨y0, y1⟩ := Y1.c))
  have gz : w7.heap.size < (w9.alloc (.cells #[.slice p1 n1 d1, .slice p2 n2 d2] 36)).heap.size := (Array.getElem?_eq_some_iff.1 Z1.box).1
  have gy : w9.heap.size < (w9.alloc (.cells #[.slice p1 n1 d1, .slice p2 n2 d2] 36)).heap.size := (Array.getElem?_eq_some_iff.1 Y1.box).1
  generalize w9.alloc (.cells #[.slice p1 n1 d1, .slice p2 n2 d2] 36) = WA at *
  have al : ∀ V, Below WA.heap.size WA V → V.cell? ⟨w7.heap.size, 0, none⟩ = some (.slice o1 sn c1) ∧ V.cell? ⟨w7.heap.size, 1, none⟩ = some (.slice o2 an c2) ∧ V.cell? ⟨w9.heap.size, 0, none⟩ = some (.slice p1 n1 d1) ∧ V.cell? ⟨w9.heap.size, 1, none⟩ = some (.slice p2 n2 d2) := fun V B => ⟨(B.cell (p := ⟨w7.heap.size, 0, none⟩) gz).trans x0, (B.cell (p := ⟨w7.heap.size, 1, none⟩) gz).trans x1, (B.cell (p := ⟨w9.heap.size, 0, none⟩) gy).trans y0, (B.cell (p := ⟨w9.heap.size, 1, none⟩) gy).trans y1⟩
  go_cut [10, 11] (fun a b V => ∃ px pw, a = .pointer (some ⟨px, 0, none⟩) ∧ b = .pointer (some ⟨pw, 0, none⟩) ∧ px ≠ pw ∧ WA.heap.size ≤ px ∧ WA.heap.size ≤ pw ∧ V.heap[px]? = some (.cells #[.slice p1 n1 d1, .slice p2 n2 d2] 36 (0, 0)) ∧ V.heap[pw]? = some (.cells #[.slice o1 sn c1, .slice o2 an c2] 36 (0, 0)) ∧ Below WA.heap.size WA V)
  case first =>
    go_region_held3 (fun V => V.cell? ⟨w7.heap.size, 0, none⟩ = some (.slice o1 sn c1) ∧ V.cell? ⟨w7.heap.size, 1, none⟩ = some (.slice o2 an c2) ∧ V.cell? ⟨w9.heap.size, 0, none⟩ = some (.slice p1 n1 d1) ∧ V.cell? ⟨w9.heap.size, 1, none⟩ = some (.slice p2 n2 d2)) (exact al _ (by repeat (first | exact Below.refl _ _ | refine Below.drew ?_ | refine bbA _ ?_ (Nat.le_refl _) | refine bbS _ ?_ (by simp <;> omega)))) (fail)
    all_goals
      go_wp2
      go_meet
      case rel =>
        first
          | exact ⟨WA.heap.size, WA.heap.size + 1, rfl, rfl, by omega, by omega, by omega, two_first WA _ _, two_second WA _ _, by repeat (first | exact Below.refl _ _ | refine Below.drew ?_ | refine bbA _ ?_ (Nat.le_refl _) | refine bbS _ ?_ (by simp <;> omega))⟩
          | exact ⟨WA.heap.size + 1, WA.heap.size, rfl, rfl, by omega, by omega, by omega, two_second WA _ _, two_first WA _ _, by repeat (first | exact Below.refl _ _ | refine Below.drew ?_ | refine bbA _ ?_ (Nat.le_refl _) | refine bbS _ ?_ (by simp <;> omega))⟩
          | trace_state
  case rest =>
    obtain ⟨px, pw, rfl, rfl, ne, lx, lw, hx, hw, bc⟩ := hcut
    have bwc := btw b10 bc b10.size
    obtain ⟨a0, a1, a2, a3⟩ := box2 hx
    obtain ⟨q0, q1, q2, q3⟩ := box2 hw
    obtain ⟨z0, z1, v0, v1⟩ := al _ bc
    clear al
    go_wp2
    go_region
    obtain ⟨VV, hV⟩ : ∃ V, V = ((((wc.setCell ⟨px, 0, none⟩ (.slice o1 sn c1)).setCell ⟨px, 1, none⟩ (.slice o2 an c2)).setCell ⟨pw, 0, none⟩ (.slice p1 n1 d1)).setCell ⟨pw, 1, none⟩ (.slice p2 n2 d2)).drew := ⟨_, rfl⟩
    have bV : Below WA.heap.size WA VV := by rw [hV]; exact (bbS _ (bbS _ (bbS _ (bbS _ bc lx) lx) lw) lw).drew
    have i0 : VV.cell? ⟨px, 0, none⟩ = some (.slice o1 sn c1) := by rw [hV]; go_simp
    have i1 : VV.cell? ⟨px, 1, none⟩ = some (.slice o2 an c2) := by rw [hV]; go_simp
    have i2 : VV.cell? ⟨pw, 0, none⟩ = some (.slice p1 n1 d1) := by rw [hV]; go_simp
    have i3 : VV.cell? ⟨pw, 1, none⟩ = some (.slice p2 n2 d2) := by rw [hV]; go_simp
    rw [← hV]
    clear a0 a1 a2 a3 q0 q1 q2 q3 z0 z1 v0 v1 hx hw hV
    have bwv := btw b10 bV b10.size
    have hd := HD _ bwv o1 o2 sn c1 an c2 p1 p2 n1 d1 n2 d2 (Z1.s.below bV (Nat.le_refl _)) sz1 (Z1.a.below bV (Nat.le_refl _)) sz2 (Y1.s.below bV (Nat.le_refl _)) sp1 (Y1.a.below bV (Nat.le_refl _)) sp2
    have Z2 := Z1.below bV
    clear HD
    (try simp only [Exit.inBlock, Exit.then])
    go_wp2_with (first
      | (go_at_call 20; (with_reducible refine hd.mono ?_); rintro e w11 ⟨r1, r2, r3, r4, r5, r6, rfl, h1, h2, k11⟩
         have kb := box_below w11 (.cells #[.slice r1 r2 r3, .slice r4 r5 r6] 36)
         have k12 := btw k11 kb k11.size
         have b12 := btw bwv k12 bwv.size
         have Z3 := Z2.below k12
         have B3 := bv_new (c1 := r3) (c2 := r6) h1.rd h2.rd
         clear i0 i1 i2 i3 hd
         obtain ⟨z0, z1⟩ := Z3.c
         obtain ⟨v0, v1⟩ := B3.c
         have heq := eqT9 _ _ _ _ _ _ r3 _ r6 _ c1 _ c2 _ _ B3.s B3.a Z3.s Z3.a)
      | (go_at_call 18; (with_reducible refine heq.mono ?_); rintro e w13 ⟨rfl, k13⟩
         have b13 := btw b12 k13 b12.size
         clear heq))
    go_ret
    exact ⟨rfl, b13⟩
end Go.Proofs.YtelcagfaflpolaaGreat
