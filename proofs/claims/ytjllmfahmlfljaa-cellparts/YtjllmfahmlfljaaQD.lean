
/- The statement CellParts, walked: an array that may be. -/

import Derived.Test.YtjllmfahmlfljaaQB

namespace Go.Proofs.Ytjllmfahmlfljaa

open Go.RowKit Go.Deep

set_option linter.unusedVariables false

theorem back_atoms (so ao : Option Addr) (sn sc an ac : Nat) (s : List Int) (w : World) (hs : Rd w so sn s) (ha : Rd w ao an s) :
    Calls Try.prog 22 #[.slice so sn sc, .slice ao an ac] w fun e w' => e = .returned (.bool true) ∧ Below w.heap.size w w' :=
  (eqAtoms_any so ao sn an sc ac s s w hs ha).mono fun e w' ⟨x1, q, x2⟩ => ⟨by rw [x1, eqB_refl], x2 ▸ below_drewN (Below.refl _ _) _⟩

set_option maxHeartbeats 40000000 in
set_option maxRecDepth 20000 in
theorem parts_go (so ao : Option Addr) (sn sc an ac : Nat) (sh at' : List Int) (f n lg : Int) (w : World) (h : Rd w so sn sh) (hs : Sl so sn sc) (g : Rd w ao an at') (gs : Sl ao an ac) (f1 : -9223372036854775808 ≤ f) (f2 : f ≤ 9223372036854775807) (n1 : -9223372036854775808 ≤ n) (n2 : n ≤ 9223372036854775807) (l1 : -9223372036854775808 ≤ lg) (l2 : lg ≤ 9223372036854775807)
    (m sl : Nat) (SS : List Int) (E : Int) (S A : List Int) (m4 : m ≤ 4096) (l9 : 0 < sl) (s8 : sl ≤ 9)
    (hsh : Hid ((sn = 0 → SS = [1] ∧ sl = 1 ∧ sh = []) ∧ (sn ≠ 0 → SS = sh ∧ sl = sn))) (hss : Hid (nth SS 0 = (m : Int))) (hsl : Hid (SS.length = sl ∧ sl = (sh.drop 1).length + 1))
    (hal : ∀ V, Rd V so sn sh → Rd V ao an at' → Calls Try.prog 21 #[.agg #[.slice so sn sc, .slice ao an ac], .int .i64 0, .int .i64 (m : Nat)] V fun e w' => ∃ o1 n1 c1 o2 n2 c2, e = .returned (.tuple #[.agg #[.slice o1 n1 c1, .slice o2 n2 c2], .int .i64 0]) ∧ Ft 3 w' V.heap.size o1 n1 c1 SS ∧ Ft 2 w' V.heap.size o2 n2 c2 at' ∧ Below V.heap.size V w')
    (hpa : ∀ V, Rd V so sn sh → Rd V ao an at' → Calls Try.prog 21 #[.agg #[.slice so sn sc, .slice ao an ac], .int .i64 f, .int .i64 n] V fun e w' => ∃ o1 n1 c1 o2 n2 c2, e = .returned (.tuple #[.agg #[.slice o1 n1 c1, .slice o2 n2 c2], .int .i64 E]) ∧ Ft 3 w' V.heap.size o1 n1 c1 S ∧ Ft 2 w' V.heap.size o2 n2 c2 A ∧ Below V.heap.size V w')
    (hin : Hid (∀ f' n' : Int, ∀ fr mm : Nat, fr + mm ≤ m → f' = fr → n' = mm → ∀ V, Rd V so sn sh → Rd V ao an at' → Calls Try.prog 21 #[.agg #[.slice so sn sc, .slice ao an ac], .int .i64 f', .int .i64 n'] V fun e w' => ∃ o1 n1 c1 o2 n2 c2, e = .returned (.tuple #[.agg #[.slice o1 n1 c1, .slice o2 n2 c2], .int .i64 0]) ∧ Ft 3 w' V.heap.size o1 n1 c1 ((mm : Int) :: sh.drop 1) ∧ Ft 2 w' V.heap.size o2 n2 c2 ((at'.drop (fr * isz sh)).take (mm * isz sh)) ∧ Below V.heap.size V w'))
    (hD : Hid ((∃ fr nn s2 r2 : Nat, f = fr ∧ n = nn ∧ s2 = fr + nn ∧ m = s2 + r2 ∧ E = 0 ∧ S = n :: sh.drop 1 ∧ A = (at'.drop (fr * isz sh)).take (nn * isz sh) ∧ (at'.drop (0 * isz sh)).take (fr * isz sh) ++ A ++ (at'.drop (s2 * isz sh)).take (r2 * isz sh) = at') ∨ ((f < 0 ∨ n < 0 ∨ (m : Int) - f < n) ∧ E = 13)))
    (hpc : ∀ V, Rd V so sn sh → Rd V ao an at' → Calls Try.prog 23 #[.agg #[.slice so sn sc, .slice ao an ac], .int .i64 lg] V fun e w' => ∃ K p po pc o1 n1 c1 o2 n2 c2 E S A, e = .returned (.tuple #[.slice po K pc, .agg #[.slice o1 n1 c1, .slice o2 n2 c2], .int .i64 E]) ∧ Pf w' V.heap.size po K pc p ∧ Ft 3 w' V.heap.size o1 n1 c1 S ∧ Ft 2 w' V.heap.size o2 n2 c2 A ∧ Below V.heap.size V w' ∧ PcT sh at' lg K p E S A)
    (HM : Hid (mayA sh at' = 0 ∧ mayF (sh.drop 1) = 0 ∧ (tal sh).toNat = m)) :
    Calls Try.prog 5 #[.agg #[.slice so sn sc, .slice ao an ac], .int .i64 f, .int .i64 n, .int .i64 lg] w fun e w' => e = .returned (.bool true) ∧ Below w.heap.size w w' := by
  have I0 : Py w (w.alloc (.cells #[.slice so sn sc, .slice ao an ac] 25)) so sn sc ao an ac sh at' := ⟨(bx_new h g).c0, (bx_new h g).c1, (bx_new h g).s, (bx_new h g).a, box_below w _⟩
  have hroom := h.room
  have hq := fun W a n c => nilS tyI W a n c
  have ga := g.room
  have HL : Hid (at'.length = an) := g.len
  go_enter Try.func5, Try.ntmps5
  go_upto_if 34 with (first
    | (go_at_call 9; refine (begun4_any _).mono ?_; rintro e W1 ⟨rfl, k1⟩; have I1 := I0.below k1; have I1' := I1; obtain ⟨p0, p1, -, -, -⟩ := I1')
    | (at_builtin; refine wpList_joinT tyI rfl _ _ rfl W1.heap.size none so 0 0 sn sc [] sh rfl rfl (Ft.nil _ _ _) I1.s hs (by omega) (Nat.le_refl _) ?_; intro co cc V2 F2 k2; rw [Nat.zero_add, List.nil_append] at F2; have I2 := I1.below k2))
  go_cut [9] from 34 to 37 (fun s9 V => ∃ o c, s9 = .slice o sl c ∧ Ft 3 V w.heap.size o sl c SS ∧ Py w V so sn sc ao an ac sh at')
  case first =>
    by_cases z : sn = 0
    · obtain ⟨e1, e2, e3⟩ := hsh.out.1 z
      have t1 : ((sn : Int) == 0) = true := by simp; omega
      have fl := ft_new 3 V2 [1] (by simp) (by decide)
      have Fb := F2.below (box_below V2 (.cells #[.int .i64 1] 3)) (Nat.le_refl _)
      have k2s := k2.size
      have HZ : Hid (sn = 0) := z
      clear z
      go_wp2_with (at_builtin; refine wpList_joinT tyI rfl _ _ rfl W1.heap.size co (some ⟨V2.heap.size, 0, none⟩) sn cc 1 1 sh [1] rfl rfl Fb fl.rd fl.sl (by have := HZ.out; omega) (by simp; omega) ?_; intro co3 cc3 V3 F3 k3)
      go_meet
      case rel =>
        have z := HZ.out
        have e4 : sn + 1 = sl := by omega
        rw [e4, e3, List.nil_append, ← e1] at F3
        exact ⟨co3, cc3, by rw [e4], F3.mono I1.bel.size, I1.below ((k2.trans ((box_below V2 (.cells #[.int .i64 1] 3)).mono k2s)).trans k3)⟩
    · obtain ⟨e1, e2⟩ := hsh.out.2 z
      have z3 : ((sn : Int) == 0) = false := by simp; omega
      go_wp2
      go_meet
      case rel => exact ⟨co, cc, by rw [e2], (by rw [e1, e2]; exact F2.mono I1.bel.size), I2⟩
  case rest =>
    obtain ⟨so9, sc9, rfl, F9, I9⟩ := hcut
    obtain ⟨gb, goff, rfl, hgb, hgc⟩ := F9.rd.cells l9
    have c9 := hgc 0 l9
    rw [Nat.add_zero, hss.out] at c9
    obtain ⟨q0, q1, i9s, i9a, i9b⟩ := I9
    have I9 : Py w wc so sn sc ao an ac sh at' := ⟨q0, q1, i9s, i9a, i9b⟩
    clear hgc I0 hq I1 I2 F2 k2 k1 p0 p1 hgb i9s i9a i9b
    go_upto_if 89 with (first
      | (go_at_call 21; (with_reducible refine (hal _ I9.s I9.a).mono ?_); rintro e W3 ⟨o1, m1, c1, o2, m2, c2, rfl, y1, y2, k3⟩; have kb := box_below W3 (.cells #[.slice o1 m1 c1, .slice o2 m2 c2] 25); have I3 := (I9.below k3).below kb; have F3 := (F9.below k3 (Nat.le_refl _)).below kb (Nat.le_refl _); have Y1 := y1.rd.below kb (Nat.le_refl _); have Y2 := y2.rd.below kb (Nat.le_refl _); obtain ⟨b0, b1, -, -⟩ := box2 (allocNew W3 (.cells #[.slice o1 m1 c1, .slice o2 m2 c2] 25)); have I3' := I3; obtain ⟨r0, r1, -, -, -⟩ := I3')
      | (go_at_call 12; (with_reducible refine (back_ints _ _ _ _ _ _ SS _ Y1 F3.rd).mono ?_); rintro e W4 ⟨rfl, k4⟩; have I4 := I3.below k4; have F4 := F3.below k4 (Nat.le_refl _); have Y4 := Y2.below k4 (Nat.le_refl _); have b1' := cellB k4 b1 (Nat.le_refl _); have I4' := I4; obtain ⟨s0, s1, -, -, -⟩ := I4')
      | (go_at_call 22; (with_reducible refine (back_atoms _ _ _ _ _ _ at' _ Y4 I4.a).mono ?_); rintro e W5 ⟨rfl, k5⟩; have I5 := I4.below k5; have F5 := F4.below k5 (Nat.le_refl _); have I5' := I5; obtain ⟨t0, t1, -, -, -⟩ := I5')
      | (go_at_call 21; (with_reducible refine (hpa _ I5.s I5.a).mono ?_); rintro e W6 ⟨o3, m3, c3, o4, m4', c4, rfl, z1, z2, k6⟩; have kc := box_below W6 (.cells #[.slice o3 m3 c3, .slice o4 m4' c4] 25); have I6 := (I5.below k6).below kc; have F6 := (F5.below k6 (Nat.le_refl _)).below kc (Nat.le_refl _); have Z1 := (z1.mono (I5.bel.size)).below kc (Nat.le_refl _); have Z2 := (z2.mono I5.bel.size).below kc (Nat.le_refl _); obtain ⟨d0, d1, -, -⟩ := box2 (allocNew W6 (.cells #[.slice o3 m3 c3, .slice o4 m4' c4] 25)); have I6' := I6; obtain ⟨x0, x1, -, -, -⟩ := I6'))
    clear I3 I4 I5 F3 F4 F5 F9 I9 Y1 Y2 Y4 y1 y2 k3 k4 k5 k6 kb kc b0 b1 b1' z1 z2 r0 r1 s0 s1 t0 t1 q0 q1 c9
    go_cut [] from 89 to 167 (fun V => Ft 3 V w.heap.size (some ⟨gb, goff, none⟩) sl sc9 SS ∧ Py w V so sn sc ao an ac sh at')
    case first =>
      rcases hD.out with ⟨fr, nn, s2, r2, hf, hn, hs2, hr2, hE, hS, hA, h3⟩ | ⟨c, hE⟩
      · as_aux_lemma =>
          have tE : (E == 0) = true := by rw [hE]; rfl
          rw [hS] at Z1
          have hl3 := Z1.rd.len
          have e3 : m3 = sl := by rw [hsl.out.2, ← hl3]; simp
          have u7 : ((m3 : Int) != (sl : Int)) = false := by rw [e3]; simp
          obtain ⟨r1', hr1⟩ : ∃ r1 : Nat, r1 = nn + r2 := ⟨_, rfl⟩
          have w1 : IntKind.i64.wrap (f + n) = (s2 : Int) := by rw [show f + n = (s2 : Int) by omega]; exact wrapIn _ (by omega)
          have w2 : IntKind.i64.wrap ((m : Int) - f) = (r1' : Int) := by rw [show (m : Int) - f = (r1' : Int) by omega]; exact wrapIn _ (by omega)
          have w3 : IntKind.i64.wrap ((r1' : Int) - n) = (r2 : Int) := by rw [show (r1' : Int) - n = (r2 : Int) by omega]; exact wrapIn _ (by omega)
          have hA' := hin.out 0 f 0 fr (by omega) rfl hf
          have hB' := hin.out s2 r2 s2 r2 (by omega) rfl rfl
          obtain ⟨pb, poff, rfl, hpb, hpc'⟩ := Z1.rd.cells (by omega)
          have cp := hpc' 0 (by omega)
          rw [Nat.add_zero, show nth (n :: sh.drop 1) 0 = n from rfl] at cp
          have H3' : Hid ((at'.drop (0 * isz sh)).take (fr * isz sh) ++ A ++ (at'.drop (s2 * isz sh)).take (r2 * isz sh) = at') := h3
          have la : ((at'.drop (0 * isz sh)).take (fr * isz sh)).length + A.length + ((at'.drop (s2 * isz sh)).take (r2 * isz sh)).length = an := by rw [← List.length_append, ← List.length_append, h3]; exact HL.out
          have LA : Hid (((at'.drop (0 * isz sh)).take (fr * isz sh)).length + A.length + ((at'.drop (s2 * isz sh)).take (r2 * isz sh)).length = an) := la
          have b3 : (0 : Int) < (m3 : Int) := by omega
          have b4 : 0 < m3 := by omega
          clear hpc' hpb hr1 hf hn hs2 hr2 hE hS hA h3 hl3 e3 la
          go_wp2_with (first
            | (go_at_call 21; (with_reducible refine (hA' _ I6.s I6.a).mono ?_); rintro e W7 ⟨o5, m5, c5, o6, m6, c6, rfl, _, a6, k7⟩; have kd := box_below W7 (.cells #[.slice o5 m5 c5, .slice o6 m6 c6] 25); have I7 := (I6.below k7).below kd; have F7 := (F6.below k7 (Nat.le_refl _)).below kd (Nat.le_refl _); have A6 := (a6.mono I6.bel.size).below kd (Nat.le_refl _); have PZ := (Z2.below k7 (Nat.le_refl _)).below kd (Nat.le_refl _); have d0' := cellB kd (cellB k7 d0 (Nat.le_refl _)) (Nat.le_refl _); have d1' := cellB kd (cellB k7 d1 (Nat.le_refl _)) (Nat.le_refl _); have cp' := cellB kd (cellB k7 cp (Nat.le_refl _)) (Nat.le_refl _); obtain ⟨-, f7, -, -⟩ := box2 (allocNew W7 (.cells #[.slice o5 m5 c5, .slice o6 m6 c6] 25)); have I7' := I7; obtain ⟨v0, v1, -, -, -⟩ := I7')
            | (go_at_call 21; (with_reducible refine (hB' _ I7.s I7.a).mono ?_); rintro e W8 ⟨o7, m7, c7, o8, m8, c8, rfl, _, b8, k8⟩; have ke := box_below W8 (.cells #[.slice o7 m7 c7, .slice o8 m8 c8] 25); have I8 := (I7.below k8).below ke; have F8 := (F7.below k8 (Nat.le_refl _)).below ke (Nat.le_refl _); have B8 := (b8.mono I7.bel.size).below ke (Nat.le_refl _); have A8 := (A6.below k8 (Nat.le_refl _)).below ke (Nat.le_refl _); have PZ8 := (PZ.below k8 (Nat.le_refl _)).below ke (Nat.le_refl _); have d0'' := cellB ke (cellB k8 d0' (Nat.le_refl _)) (Nat.le_refl _); have d1'' := cellB ke (cellB k8 d1' (Nat.le_refl _)) (Nat.le_refl _); have cp'' := cellB ke (cellB k8 cp' (Nat.le_refl _)) (Nat.le_refl _); have f8 := cellB ke (cellB k8 f7 (Nat.le_refl _)) (Nat.le_refl _); obtain ⟨-, g8', -, -⟩ := box2 (allocNew W8 (.cells #[.slice o7 m7 c7, .slice o8 m8 c8] 25)); have I8' := I8; obtain ⟨j0, j1, -, -, -⟩ := I8'))
          have al : ∀ V, Below (W8.alloc (.cells #[.slice o7 m7 c7, .slice o8 m8 c8] 25)).heap.size (W8.alloc (.cells #[.slice o7 m7 c7, .slice o8 m8 c8] 25)) V → V.cell? ⟨w.heap.size, 1, none⟩ = some (.slice ao an ac) ∧ V.cell? ⟨W6.heap.size, 0, none⟩ = some (.slice (some ⟨pb, poff, none⟩) m3 c3) ∧ V.cell? ⟨W6.heap.size, 1, none⟩ = some (.slice o4 m4' c4) ∧ V.cell? ⟨pb, poff, none⟩ = some (.int .i64 n) ∧ V.cell? ⟨W7.heap.size, 1, none⟩ = some (.slice o6 m6 c6) ∧ V.cell? ⟨W8.heap.size, 1, none⟩ = some (.slice o8 m8 c8) ∧ Below (W8.alloc (.cells #[.slice o7 m7 c7, .slice o8 m8 c8] 25)).heap.size (W8.alloc (.cells #[.slice o7 m7 c7, .slice o8 m8 c8] 25)) V := fun V b => ⟨cellB b j1 (Nat.le_refl _), cellB b d0'' (Nat.le_refl _), cellB b d1'' (Nat.le_refl _), cellB b cp'' (Nat.le_refl _), cellB b f8 (Nat.le_refl _), cellB b g8' (Nat.le_refl _), b⟩
          have y1 : (0 + m6) * 8 ≤ 140737488351232 := by have := LA.out; have := A8.rd.len; omega
          have y2 : (m6 + m4') * 8 ≤ 140737488351232 := by have := LA.out; have := A8.rd.len; have := PZ8.rd.len; omega
          have y3 : (m6 + m4' + m8) * 8 ≤ 140737488351232 := by have := LA.out; have := A8.rd.len; have := PZ8.rd.len; have := B8.rd.len; omega
          clear A6 a6 b8 PZ d0 d1 d0' d1' cp cp' f7 I7 I6 F6 F7 k7 k8 kd ke x0 x1 v0 v1 hA' hB'
          go_region_held3 (fun V => V.cell? ⟨w.heap.size, 1, none⟩ = some (.slice ao an ac) ∧ V.cell? ⟨W6.heap.size, 0, none⟩ = some (.slice (some ⟨pb, poff, none⟩) m3 c3) ∧ V.cell? ⟨W6.heap.size, 1, none⟩ = some (.slice o4 m4' c4) ∧ V.cell? ⟨pb, poff, none⟩ = some (.int .i64 n) ∧ V.cell? ⟨W7.heap.size, 1, none⟩ = some (.slice o6 m6 c6) ∧ V.cell? ⟨W8.heap.size, 1, none⟩ = some (.slice o8 m8 c8) ∧ Below (W8.alloc (.cells #[.slice o7 m7 c7, .slice o8 m8 c8] 25)).heap.size (W8.alloc (.cells #[.slice o7 m7 c7, .slice o8 m8 c8] 25)) V) (first | exact al _ (by assumption) | exact al _ (Below.drew (by assumption)) | exact al _ (Below.refl _ _) | exact al _ (Below.refl _ _).drew)
            (first
              | (have HB := (‹_ ∧ _ ∧ _ ∧ _ ∧ _ ∧ _ ∧ Below (W8.alloc (.cells #[.slice o7 m7 c7, .slice o8 m8 c8] 25)).heap.size (W8.alloc (.cells #[.slice o7 m7 c7, .slice o8 m8 c8] 25)) _›).2.2.2.2.2.2; refine step_joinG tyL rfl (.const (.slice none 0 0)) (.tmp 117) rfl (W8.alloc (.cells #[.slice o7 m7 c7, .slice o8 m8 c8] 25)).heap.size none o6 0 0 m6 c6 [] _ rfl rfl (Ft.nil _ _ _) (A8.below HB (Nat.le_refl _)).rd A8.sl y1 HB.size ?_; intro oa ca v1' G1 h1'; rw [Nat.zero_add, List.nil_append] at G1; have HB1 := HB.trans h1'; rw [Nat.zero_add])
              | (have HB := (‹_ ∧ _ ∧ _ ∧ _ ∧ _ ∧ _ ∧ Below (W8.alloc (.cells #[.slice o7 m7 c7, .slice o8 m8 c8] 25)).heap.size (W8.alloc (.cells #[.slice o7 m7 c7, .slice o8 m8 c8] 25)) _›).2.2.2.2.2.2; refine step_joinG tyL rfl (.tmp 118) (.tmp 120) rfl (W8.alloc (.cells #[.slice o7 m7 c7, .slice o8 m8 c8] 25)).heap.size oa o4 m6 ca m4' c4 _ A rfl rfl (by first | exact G1 | exact G1.below (Below.refl _ _).drew (Nat.le_refl _)) (PZ8.below HB (Nat.le_refl _)).rd PZ8.sl y2 HB.size ?_; intro ob cb v2' G2 h2'; have HB2 := HB.trans h2')
              | (have HB := (‹_ ∧ _ ∧ _ ∧ _ ∧ _ ∧ _ ∧ Below (W8.alloc (.cells #[.slice o7 m7 c7, .slice o8 m8 c8] 25)).heap.size (W8.alloc (.cells #[.slice o7 m7 c7, .slice o8 m8 c8] 25)) _›).2.2.2.2.2.2; refine step_joinG tyL rfl (.tmp 121) (.tmp 123) rfl (W8.alloc (.cells #[.slice o7 m7 c7, .slice o8 m8 c8] 25)).heap.size ob o8 (m6 + m4') cb m8 c8 _ _ rfl rfl (by first | exact G2 | exact G2.below (Below.refl _ _).drew (Nat.le_refl _)) (B8.below HB (Nat.le_refl _)).rd B8.sl y3 HB.size ?_; intro oc cc' v3' G3 h3'; rw [H3'.out] at G3; have HB3 := HB.trans h3')
              | (go_at_call 22; have HB := (‹_ ∧ _ ∧ _ ∧ _ ∧ _ ∧ _ ∧ Below (W8.alloc (.cells #[.slice o7 m7 c7, .slice o8 m8 c8] 25)).heap.size (W8.alloc (.cells #[.slice o7 m7 c7, .slice o8 m8 c8] 25)) _›).2.2.2.2.2.2; (with_reducible refine (back_atoms _ _ _ _ _ _ at' _ (by first | exact G3.rd | exact G3.rd.below (Below.refl _ _).drew (Nat.le_refl _)) (I8.below HB).a).mono ?_); rintro e v4' ⟨rfl, h4'⟩; have HB4 := btw HB h4' HB.size))
          go_wp2
          go_meet
          case rel => exact ⟨F8.below HB4 (Nat.le_refl _), I8.below HB4⟩
      · as_aux_lemma =>
          have tE : (E == 0) = false := by rw [hE]; rfl
          have tE' : (E != 13) = false := by rw [hE]; rfl
          clear hE
          by_cases a1 : f < 0
          · have t1' : decide (0 ≤ f) = false := by simp; omega
            go_wp2
            go_meet
            case rel => exact ⟨F6, I6⟩
          · have t1' : decide (0 ≤ f) = true := by simp; omega
            by_cases a2 : n < 0
            · have t2' : decide (0 ≤ n) = false := by simp; omega
              go_wp2
              go_meet
              case rel => exact ⟨F6, I6⟩
            · have t2' : decide (0 ≤ n) = true := by simp; omega
              by_cases a3 : f ≤ (m : Int)
              · have t3' : decide (f ≤ (m : Int)) = true := by simp; omega
                have w4 : IntKind.i64.wrap ((m : Int) - f) = (m : Int) - f := wrapIn _ (by omega)
                have t4' : decide (n ≤ (m : Int) - f) = false := by simp; omega
                go_wp2
                go_meet
                case rel => exact ⟨F6, I6⟩
              · have t3' : decide (f ≤ (m : Int)) = false := by simp; omega
                go_wp2
                go_meet
                case rel => exact ⟨F6, I6⟩
    case rest =>
      obtain ⟨F10, I10⟩ := hcut
      obtain ⟨q0', q1', is10, ia10, ib10⟩ := I10
      clear hal hpa hin hD I6 F6 Z1 Z2 d0 d1 x0 x1
      go_upto_region 22 with (go_at_call 23; (with_reducible refine (hpc _ is10 ia10).mono ?_); rintro e W11 ⟨K, p, po, pc, o1, m1, c1, o2, m2, c2, E', S', A', rfl, y1, y2, y3, k11, T⟩; have kb := box_below W11 (.cells #[.slice o1 m1 c1, .slice o2 m2 c2] 25); have bel := btw (btw ib10 k11 ib10.size) kb (btw ib10 k11 ib10.size).size; have Y2 := y2.rd.below kb (Nat.le_refl _); have Y3 := y3.rd.below kb (Nat.le_refl _); have Y1 := y1.below kb (Nat.le_refl _); obtain ⟨b0, b1, -, -⟩ := box2 (allocNew W11 (.cells #[.slice o1 m1 c1, .slice o2 m2 c2] 25)))
      clear hpc is10 ia10 ib10 y1 y2 y3 k11 q0' q1' F10 kb
      rcases T with ⟨T, _⟩ | ⟨_, hl0, hE, hK, _, _⟩ | ⟨_, hl0, T, ⟨hK, hE, hS, hA⟩ | ⟨hK, hE, hS, hA⟩⟩
      · exact absurd HM.out.1 T
      · as_aux_lemma =>
          have t0 : (lg == 0) = true := by rw [hl0]; rfl
          have t1 : (E' == 10) = true := by rw [hE]; rfl
          clear hl0 hE hK
          go_wp2
          go_ret
          exact ⟨rfl, bel⟩
      · as_aux_lemma =>
          have t0 : (lg == 0) = false := by simpa using hl0
          have tE : (E' != 0) = false := by rw [hE]; rfl
          rw [HM.out.2.2] at T
          obtain ⟨nx, Z⟩ := pz_of T hl0 hK m4
          have hk5 := Z.k5
          have tK : ((K : Int) == 0) = false := by simp; omega
          have tm1 : ((m1 : Int) == 0) = true := by have := Y2.len; rw [hS] at this; simp at this; simp; omega
          have tm2 : ((m2 : Int) == 0) = true := by have := Y3.len; rw [hA] at this; simp at this; simp; omega
          clear T Y2 Y3 hS hA hE
          have Zx0 : Hid (nx 0 = 0) := Z.x0
          go_upto_if 248 with fail
          go_cut [25] from 248 to 250 (fun s25 V => s25 = .int .i64 (mst lg) ∧ V = (W11.alloc (.cells #[.slice o1 m1 c1, .slice o2 m2 c2] 25)))
          case first =>
            by_cases c5 : -5000 < lg
            · have t1 : decide (-5000 < lg) = true := by simpa using c5
              have w5 : IntKind.i64.wrap (-lg) = -lg := wrapIn _ (by omega)
              go_wp2
              go_meet
              case rel => exact ⟨by unfold mst; rw [if_pos (by omega)], rfl⟩
            · have t1 : decide (-5000 < lg) = false := by simpa using c5
              go_wp2
              go_meet
              case rel => exact ⟨by unfold mst; rw [if_neg (by omega)], rfl⟩
          case rest =>
            obtain ⟨rfl, hwc⟩ := hcut
            rw [← hwc] at Y1 b0 b1 bel
            clear hwc h hs g gs f1 f2 n1 n2 hsh hss hsl hroom ga HL HM s8 l9 tE t0 tK
            go_wp2
            go_loopw [24, 26] (fun s i V => ∃ k : Nat, k ≤ K ∧ i = .int .i64 (k : Nat) ∧ s = .int .i64 (nx k) ∧ Below wc.heap.size wc V) (fun _ i _ => K - (intOf i).toNat)
            case atStart => exact ⟨0, Nat.zero_le _, rfl, by rw [Zx0.out], Below.refl _ _⟩
            case round =>
              obtain ⟨k, kn, rfl, rfl, bv⟩ := hrel
              by_cases hk : k < K
              · obtain ⟨pg, rfl, hc⟩ := (Y1.below bv (Nat.le_refl _)).cells hK
                obtain ⟨a1, a2⟩ := hc k hk
                have t1 : decide ((k : Int) < (K : Int)) = true := by simp; omega
                have b1' : (k : Int) < (K : Int) := by omega
                have w1 : IntKind.i64.wrap ((k : Int) + 1) = (k : Int) + 1 := wrapIn _ (by omega)
                obtain ⟨d1, d2, d3, d4⟩ := Z.bd k hk
                have st := Z.step k hk
                clear hc Y1
                rcases Int.lt_or_gt_of_ne hl0 with c | c
                · as_aux_lemma =>
                    obtain ⟨e1, e2, e3, e4⟩ := Z.neg c k hk
                    have HS : Hid (nx (k + 1) = nx k + (p k).2) := by show _ = _; rw [st, e1]
                    rw [e1] at a1 d1 d2
                    have w2 : IntKind.i64.wrap (nx k + (p k).2) = nx k + (p k).2 := wrapIn _ (by omega)
                    have w3 : IntKind.i64.wrap ((K : Int) - 1) = (K : Int) - 1 := wrapIn _ (by omega)
                    have vu1 : decide (0 < lg) = false := by simp; omega
                    have vu2 : decide (lg < 0) = true := by simpa using c
                    have vu3 : decide ((p k).2 < 1) = false := by simp; omega
                    have vu4 : decide (mst lg < (p k).2) = false := by simp; omega
                    by_cases c6 : (k : Int) < (K : Int) - 1
                    · have vu5 : decide ((k : Int) < (K : Int) - 1) = true := by simpa using c6
                      have vu6 : ((p k).2 != mst lg) = false := by rw [e4 c6]; simp
                      clear st e1 Z e4 e2 e3 d1 d2 d3 d4 c6 hl0 c
                      go_upto_region 33 with fail
                      dsimp only [List.append]
                      go_wp2
                      go_quiet (fail)
                      go_wp2
                      go_roundw
                      case rel => exact ⟨k + 1, by omega, by go_num, by rw [HS.out], below_drewN bv _⟩
                      case measure => simp [intOf]; omega
                    · have vu5 : decide ((k : Int) < (K : Int) - 1) = false := by simpa using c6
                      clear st e1 Z e4 e2 e3 d1 d2 d3 d4 c6 hl0 c
                      go_upto_region 33 with fail
                      dsimp only [List.append]
                      go_wp2
                      go_quiet (fail)
                      go_wp2
                      go_roundw
                      case rel => exact ⟨k + 1, by omega, by go_num, by rw [HS.out], below_drewN bv _⟩
                      case measure => simp [intOf]; omega
                · as_aux_lemma =>
                    obtain ⟨e1, e2⟩ := Z.pos c k hk
                    rw [e1] at a1 st
                    rw [e2] at a2 st
                    rw [e2] at d3 d4
                    have HS : Hid (nx (k + 1) = (k : Int) + lg) := st
                    have w2 : IntKind.i64.wrap ((k : Int) + lg) = (k : Int) + lg := wrapIn _ (by omega)
                    have vu1 : decide (0 < lg) = true := by simpa using c
                    have vu2 : decide (lg < 0) = false := by simp; omega
                    clear st e1 e2 Z d1 d2 d3 d4 hl0 c
                    go_upto_region 33 with fail
                    dsimp only [List.append]
                    go_wp2
                    go_quiet (fail)
                    go_wp2
                    go_roundw
                    case rel => exact ⟨k + 1, by omega, by go_num, by rw [HS.out], below_drewN bv _⟩
                    case measure => simp [intOf]; omega
              · as_aux_lemma =>
                  obtain rfl : k = K := by omega
                  have t1 : decide ((k : Int) < (k : Int)) = false := by simp
                  have t2 : (nx k == (m : Int)) = true := by rw [Z.last]; simp
                  have b0' := cellB bv b0 (Nat.le_refl _)
                  have b1'' := cellB bv b1 (Nat.le_refl _)
                  clear Z Zx0
                  go_wp2
                  go_ret
                  exact ⟨rfl, btw bel bv bel.size⟩
      · have t0 : (lg == 0) = false := by simpa using hl0
        have t0' : (lg != 0) = true := by simpa using hl0
        rw [hK, HM.out.2.2] at T
        obtain ⟨T1, T2⟩ := pc_none T hl0
        have tK : ((K : Int) == 0) = true := by rw [hK]; rfl
        rcases lng_may (n := lg) HM.out.2.1 with e | e
        · as_aux_lemma =>
            have tE : (E' != 0) = false := by rw [hE, e]; rfl
            rw [show filS ((lng lg : Int) :: sh.drop 1) = (lng lg : Int) :: sh.drop 1 by unfold filS; rw [if_pos e]] at hS
            obtain ⟨e1, e2⟩ := lng_ok hl0 e
            rw [e1] at hS
            rw [hS] at Y2
            have hl3 := Y2.len
            have e3 : m1 = sl := by rw [hsl.out.2, ← hl3]; simp
            have tm : ((m1 : Int) == (sl : Int)) = true := by rw [e3]; simp
            have b3 : (0 : Int) < (m1 : Int) := by omega
            obtain ⟨pb, poff, rfl, hpb, hpc'⟩ := Y2.cells (by omega)
            have cp := hpc' 0 (by omega)
            rw [Nat.add_zero, show nth (((lg.natAbs : Nat) : Int) :: sh.drop 1) 0 = ((lg.natAbs : Nat) : Int) from rfl] at cp
            clear hpc' hl3 e e1 T hA hS hE hK e3 Y2 Y3 Y1
            rcases Int.lt_or_gt_of_ne hl0 with c | c
            · have T3 := T2 c
              rw [show ((lg.natAbs : Nat) : Int) = -lg by omega] at cp
              have t1 : decide (0 < lg) = false := by simp; omega
              have t2 : decide (lg < 0) = true := by simpa using c
              have t3 : ((m : Int) == 0) = true := by rw [T3]; rfl
              have w5 : IntKind.i64.wrap (-lg) = -lg := wrapIn _ (by omega)
              clear T1 T2 hl0 T3
              go_wp2
              go_ret
              exact ⟨rfl, bel⟩
            · have T3 := T1 c
              rw [show ((lg.natAbs : Nat) : Int) = lg by omega] at cp
              have t1 : decide (0 < lg) = true := by simpa using c
              have t2 : decide ((m : Int) < lg) = true := by simpa using T3
              clear T1 T2 hl0
              go_wp2
              go_ret
              exact ⟨rfl, bel⟩
        · as_aux_lemma =>
            have tE : (E' != 0) = true := by rw [hE, e]; rfl
            have tE1 : (E' == 10) = false := by rw [hE, e]; rfl
            have tE2 : (E' == 17) = true := by rw [hE, e]; rfl
            clear hS hA e T hE hK Y1 Y2 Y3
            rcases Int.lt_or_gt_of_ne hl0 with c | c
            · have T3 := T2 c
              have t1 : decide ((m : Int) < lg) = false := by simp; omega
              have t3 : ((m : Int) == 0) = true := by rw [T3]; rfl
              clear T1 T2 hl0 T3
              go_wp2
              go_ret
              exact ⟨rfl, bel⟩
            · have T3 := T1 c
              have t2 : decide ((m : Int) < lg) = true := by simpa using T3
              clear T1 T2 hl0
              go_wp2
              go_ret
              exact ⟨rfl, bel⟩

theorem parts_ok (so ao : Option Addr) (sn sc an ac : Nat) (sh at' : List Int) (f n lg : Int) (w : World) (h : Rd w so sn sh) (hs : Sl so sn sc) (g : Rd w ao an at') (gs : Sl ao an ac) (f1 : -9223372036854775808 ≤ f) (f2 : f ≤ 9223372036854775807) (n1 : -9223372036854775808 ≤ n) (n2 : n ≤ 9223372036854775807) (l1 : -9223372036854775808 ≤ lg) (l2 : lg ≤ 9223372036854775807) (h0 : mayA sh at' = 0) :
    Calls Try.prog 5 #[.agg #[.slice so sn sc, .slice ao an ac], .int .i64 f, .int .i64 n, .int .i64 lg] w fun e w' => e = .returned (.bool true) ∧ Below w.heap.size w w' := by
  obtain ⟨m, P⟩ := pa_of h0
  have len := h.len
  have sl9 : (sOf sh).length ≤ 9 := by
    rw [sOf_len]
    have := (mayF_zero P.ms).2.1
    omega
  refine parts_go so ao sn sc an ac sh at' f n lg w h hs g gs f1 f2 n1 n2 l1 l2 m (sOf sh).length (sOf sh) (prtE sh at' f n) (prtS sh at' f n) (prtA sh at' f n) P.m4 (by rw [sOf_len]; omega) sl9 ?_ ?_ ⟨rfl, sOf_len sh⟩
    (fun V x y => part_all so ao sn sc an ac sh at' m h0 P V x hs y gs) (fun V x y => part_any so ao sn sc an ac sh at' f n V x hs y gs f1 f2 n1 n2)
    (fun f' n' fr mm hk hf hn V x y => part_in so ao sn sc an ac sh at' m h0 P fr mm hk f' n' hf hn V x hs y gs) ?_
    (fun V x y => pieces_any so ao sn sc an ac sh at' lg V x hs y l1 l2) ⟨h0, P.ms, by rw [P.tm]; omega⟩
  · show _ ∧ _
    refine ⟨fun z => ?_, fun z => ?_⟩
    · have e : sOf sh = [1] := by unfold sOf; rw [if_pos (by omega)]
      exact ⟨e, by rw [e]; rfl, List.eq_nil_of_length_eq_zero (by omega)⟩
    · have e : sOf sh = sh := by unfold sOf; rw [if_neg (by omega)]
      exact ⟨e, by rw [e]; exact len⟩
  · show nth (sOf sh) 0 = (m : Int)
    rw [sOf_cons, P.tm]
    rfl
  · show _ ∨ _
    by_cases c : f < 0 ∨ n < 0 ∨ (m : Int) - f < n
    · exact .inr ⟨c, (prt_out h0 (by rw [P.tm]; exact c)).1⟩
    · have ef : ((f.toNat : Nat) : Int) = f := by omega
      have en : ((n.toNat : Nat) : Int) = n := by omega
      obtain ⟨e1, e2, e3⟩ := prt_in (fr := f.toNat) (m := n.toNat) h0 (by rw [P.tm]; omega)
      rw [ef, en] at e1 e2 e3
      refine .inl ⟨f.toNat, n.toNat, f.toNat + n.toNat, m - (f.toNat + n.toNat), ef.symm, en.symm, rfl, by omega, e1, e2, e3, ?_⟩
      rw [e3]
      exact three_parts P rfl (by omega)
theorem parts_walk (so ao : Option Addr) (sn sc an ac : Nat) (sh at' : List Int) (f n lg : Int) (w : World) (h : Rd w so sn sh) (hs : Sl so sn sc) (g : Rd w ao an at') (gs : Sl ao an ac) (f1 : -9223372036854775808 ≤ f) (f2 : f ≤ 9223372036854775807) (n1 : -9223372036854775808 ≤ n) (n2 : n ≤ 9223372036854775807) (l1 : -9223372036854775808 ≤ lg) (l2 : lg ≤ 9223372036854775807) :
    Calls Try.prog 5 #[.agg #[.slice so sn sc, .slice ao an ac], .int .i64 f, .int .i64 n, .int .i64 lg] w fun e w' => e = .returned (.bool true) ∧ Below w.heap.size w w' := by
  by_cases c : mayA sh at' = 0
  · exact parts_ok so ao sn sc an ac sh at' f n lg w h hs g gs f1 f2 n1 n2 l1 l2 c
  · exact parts_may so ao sn sc an ac sh at' f n lg w h hs g gs f1 f2 n1 n2 l1 l2 c
end Go.Proofs.Ytjllmfahmlfljaa
