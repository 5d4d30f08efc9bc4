
/- SeekFrom: the law, x no scalar. -/

import Derived.Test.YtlncjmeabonpfaaYRb

namespace Go.Proofs.Ytlncjmeabonpfaa

open Go.RowKit

set_option linter.unusedVariables false

set_option linter.unusedSimpArgs false in
set_option maxHeartbeats 8000000 in
set_option maxRecDepth 20000 in
theorem from_rank (so : Option Addr) (sn sc : Nat) (ao : Option Addr) (an ac : Nat) (uo : Option Addr) (un uc : Nat) (bo : Option Addr) (bn bc : Nat) (sh at' th bt' : List Int) (w : World) (h : Rd w so sn sh) (hs : Sl so sn sc) (g : Rd w ao an at') (gs : Sl ao an ac) (h2 : Rd w uo un th) (hs2 : Sl uo un uc) (g2 : Rd w bo bn bt') (gs2 : Sl bo bn bc) (mx : mayA sh at' = 0) (my : mayA th bt' = 0) (hk : 0 < sn) :
    Calls Try.prog 6 #[.agg #[.slice so sn sc, .slice ao an ac], .agg #[.slice uo un uc, .slice bo bn bc]] w fun e w' => e = .returned (.bool true) ∧ Below w.heap.size w w' := by
  have I0 := f0_start w so sn sc ao an ac uo un uc bo bn bc sh at' th bt' h g h2 g2
  obtain ⟨EB, hEB⟩ : ∃ b, eqA sh at' th bt' = b := ⟨_, rfl⟩
  obtain ⟨u, hu⟩ : ∃ u : Int, (if EB = true then (1 : Int) else 0) = u := ⟨_, rfl⟩
  have HU : Hid ((if EB = true then (1 : Int) else 0) = u) := hu
  have cF := fun V (I : F0 w V so sn sc ao an ac uo un uc bo bn bc sh at' th bt') => dyadS_from so ao uo bo sn sc an ac un uc bn bc sh at' th bt' (fun S A => S = [] ∧ A = []) 12 V I.x.s I.x.a I.y.s I.y.a mx my (fun U k => from_bad so ao uo bo sn sc an ac un uc bn bc U hk)
  have cM := fun V (I : F0 w V so sn sc ao an ac uo un uc bo bn bc sh at' th bt') => dyadS_match so ao uo bo sn sc an ac un uc bn bc sh at' th bt' (fun S A => S = [] ∧ A = [u]) 0 V I.x.s I.x.a I.y.s I.y.a mx my (fun U k => by have := match_any so ao uo bo sn sc an ac un uc bn bc sh at' th bt' U (I.x.s.below k (Nat.le_refl _)) (I.x.a.below k (Nat.le_refl _)) (I.y.s.below k (Nat.le_refl _)) (I.y.a.below k (Nat.le_refl _)); rw [hEB, hu] at this; exact this)
  have cX := fun V (I : Ar V w.heap.size so sn sc ao an ac sh at') => mayA_any so ao sn sc an ac sh at' V I.s I.a
  have cY := fun V (I : Ar V (w.heap.size + 1) uo un uc bo bn bc th bt') => mayA_any uo bo un uc bn bc th bt' V I.s I.a
  have cE := fun V (I : Ar V w.heap.size so sn sc ao an ac sh at') (J : Ar V (w.heap.size + 1) uo un uc bo bn bc th bt') => eq_any so ao uo bo sn sc an ac un uc bn bc sh at' th bt' V I.s I.a J.s J.a
  rw [hEB] at cE
  rw [mx] at cX
  rw [my] at cY
  have HX : Hid (mayA sh at' = 0 ∧ mayA th bt' = 0) := ⟨mx, my⟩
  have HG : Hid (Rd w ao an at') := g
  clear hEB mx my hu
  obtain ⟨x0, x1, _, _⟩ := box2 I0.x.box
  obtain ⟨x2, x3, _, _⟩ := box2 I0.y.box
  go_enter Try.func6, Try.ntmps6
  go_upto_region 7 with (first
    | (go_at_call 7; (with_reducible refine (begun7_any _).mono ?_); rintro e W1 ⟨rfl, k1⟩; have I1 := I0.below k1; obtain ⟨p0, p1, _, _⟩ := box2 I1.x.box; obtain ⟨p2, p3, _, _⟩ := box2 I1.y.box)
    | (go_at_call 11; (with_reducible refine (cF W1 I1).mono ?_); rintro e W2 ⟨oa, na, ca, pa, ma, da, SA, AA, rfl, f2, f2a, ⟨rfl, rfl⟩, k2⟩; have I2 := (I1.below k2).below (box_below W2 (.cells #[.slice oa na ca, .slice pa ma da] 25)); have A2 := ar_new (c := ca) (d := da) f2.rd f2a.rd; obtain ⟨q0, q1, _, _⟩ := box2 I2.x.box; obtain ⟨q2, q3, _, _⟩ := box2 I2.y.box)
    | (go_at_call 11; (with_reducible refine (cM _ I2).mono ?_); rintro e W3 ⟨oc, nc, cc, pc, mc, dc, SC, AC, rfl, f3, f3a, ⟨rfl, rfl⟩, k3⟩; have k3b := box_below W3 (.cells #[.slice oc nc cc, .slice pc mc dc] 25); have I3 := (I2.below k3).below k3b; have A3 := (A2.below k3).below k3b; have C3 := ar_new (c := cc) (d := dc) f3.rd f3a.rd; have FW : Fw w (W3.alloc (.cells #[.slice oc nc cc, .slice pc mc dc] 25)) so sn sc ao an ac uo un uc bo bn bc W2.heap.size oa na ca pa ma da W3.heap.size oc nc cc pc mc dc sh at' th bt' _ _ _ _ := ⟨I3.x, I3.y, A3, C3, I3.bel⟩; obtain ⟨z0, z1, _, _⟩ := box2 I3.x.box; obtain ⟨z2, z3, _, _⟩ := box2 I3.y.box)
    | (go_at_call 8; (with_reducible refine (cX _ FW.x).mono ?_); rintro e W4' ⟨rfl, k4⟩; have F4' := FW.below k4; obtain ⟨y2, y3, _, _⟩ := box2 F4'.y.box)
    | (go_at_call 8; (with_reducible refine (cY _ F4'.y).mono ?_); rintro e W4 ⟨rfl, k4y⟩; have F4 := F4'.below k4y; have n1 : nc = 0 := f3.rd.len.symm; have n2 : mc = 1 := f3a.rd.len.symm; subst n1 n2; clear k1 k2 k3 k3b k4 k4y I0 I1 I2 I3 A2 A3 C3 FW F4' f2 f2a f3 f3a))
  generalize W2.heap.size = ga at *
  generalize W3.heap.size = gc at *
  obtain ⟨gq, qoff, epc, hgq, hcq⟩ := F4.c.a.cells (by omega)
  subst epc
  go_cut [88] (fun s88 V => s88 = .bool false ∧ Fw w V so sn sc ao an ac uo un uc bo bn bc ga oa na ca pa ma da gc oc 0 cc (some ⟨gq, qoff, none⟩) 1 dc sh at' th bt' [] [] [] [u])
  case first =>
    have al : ∀ V, Fw w V so sn sc ao an ac uo un uc bo bn bc ga oa na ca pa ma da gc oc 0 cc (some ⟨gq, qoff, none⟩) 1 dc sh at' th bt' [] [] [] [u] → V.cell? ⟨gc, 0, none⟩ = some (.slice oc 0 cc) ∧ V.cell? ⟨gc, 1, none⟩ = some (.slice (some ⟨gq, qoff, none⟩) 1 dc) ∧ V.cell? ⟨gq, qoff, none⟩ = some (.int .i64 u) ∧ V.cell? ⟨w.heap.size, 0, none⟩ = some (.slice so sn sc) ∧ V.cell? ⟨w.heap.size, 1, none⟩ = some (.slice ao an ac) ∧ V.cell? ⟨w.heap.size + 1, 0, none⟩ = some (.slice uo un uc) ∧ V.cell? ⟨w.heap.size + 1, 1, none⟩ = some (.slice bo bn bc) ∧ Fw w V so sn sc ao an ac uo un uc bo bn bc ga oa na ca pa ma da gc oc 0 cc (some ⟨gq, qoff, none⟩) 1 dc sh at' th bt' [] [] [] [u] := fun V F => by
      obtain ⟨b', off', e', hb', hc'⟩ := F.c.a.cells (by omega)
      cases e'
      exact ⟨(box2 F.c.box).1, (box2 F.c.box).2.1, by have := hc' 0 (by omega); rwa [Nat.add_zero] at this, (box2 F.x.box).1, (box2 F.x.box).2.1, (box2 F.y.box).1, (box2 F.y.box).2.1, F⟩
    clear hcq
    cases EB
    · have al' : ∀ V, Fw w V so sn sc ao an ac uo un uc bo bn bc ga oa na ca pa ma da gc oc 0 cc (some ⟨gq, qoff, none⟩) 1 dc sh at' th bt' [] [] [] [u] → V.cell? ⟨gc, 0, none⟩ = some (.slice oc 0 cc) ∧ V.cell? ⟨gc, 1, none⟩ = some (.slice (some ⟨gq, qoff, none⟩) 1 dc) ∧ V.cell? ⟨gq, qoff, none⟩ = some (.int .i64 u) ∧ V.cell? ⟨w.heap.size, 0, none⟩ = some (.slice so sn sc) ∧ V.cell? ⟨w.heap.size, 1, none⟩ = some (.slice ao an ac) ∧ V.cell? ⟨w.heap.size + 1, 0, none⟩ = some (.slice uo un uc) ∧ V.cell? ⟨w.heap.size + 1, 1, none⟩ = some (.slice bo bn bc) ∧ Fw w V so sn sc ao an ac uo un uc bo bn bc ga oa na ca pa ma da gc oc 0 cc (some ⟨gq, qoff, none⟩) 1 dc sh at' th bt' [] [] [] [u] := al
      have F4v : Fw w W4 so sn sc ao an ac uo un uc bo bn bc ga oa na ca pa ma da gc oc 0 cc (some ⟨gq, qoff, none⟩) 1 dc sh at' th bt' [] [] [] [u] := F4
      clear al F4
      have hu : (0 : Int) = u := HU.out
      have b1 : (u == 1) = false := by rw [← hu]; rfl
      have b2 : (u != 0) = false := by rw [← hu]; rfl
      have b3 : (u != 1) = true := by rw [← hu]; rfl
      clear hu
      refine wp_region_R (fun V => V.cell? ⟨gc, 0, none⟩ = some (.slice oc 0 cc) ∧ V.cell? ⟨gc, 1, none⟩ = some (.slice (some ⟨gq, qoff, none⟩) 1 dc) ∧ V.cell? ⟨gq, qoff, none⟩ = some (.int .i64 u) ∧ V.cell? ⟨w.heap.size, 0, none⟩ = some (.slice so sn sc) ∧ V.cell? ⟨w.heap.size, 1, none⟩ = some (.slice ao an ac) ∧ V.cell? ⟨w.heap.size + 1, 0, none⟩ = some (.slice uo un uc) ∧ V.cell? ⟨w.heap.size + 1, 1, none⟩ = some (.slice bo bn bc) ∧ Fw w V so sn sc ao an ac uo un uc bo bn bc ga oa na ca pa ma da gc oc 0 cc (some ⟨gq, qoff, none⟩) 1 dc sh at' th bt' [] [] [] [u]) (fun _ => true) (by kernel_rfl) ?_
      have HS0 := al' _ F4v.drew
      refine wpAnyR_take (i := 0) (v := .int .i64 0) rfl (by kernel_rfl) (by kernel_rfl) (by kernel_rfl) (by kernel_rfl) (fun _ _ _ h => h) (Or.inl ⟨by rfl, fun V hV => ?_⟩) ?_ ?_
      · obtain ⟨g0, g1, g2, g3, g4, g5, g6, _⟩ := hV
        go_simp
      · exact HS0
      conv => arg 9; simp [Act.put]
      refine wpAnyR_take (i := 1) (v := .bool false) rfl (by kernel_rfl) (by kernel_rfl) (by kernel_rfl) (by kernel_rfl) (fun _ _ _ h => h) (Or.inl ⟨by rfl, fun V hV => ?_⟩) ?_ ?_
      · obtain ⟨g0, g1, g2, g3, g4, g5, g6, _⟩ := hV
        go_simp
      · exact HS0
      conv => arg 9; simp [Act.put]
      refine wpAnyR_take (i := 2) (v := .bool false) rfl (by kernel_rfl) (by kernel_rfl) (by kernel_rfl) (by kernel_rfl) (fun _ _ _ h => h) (Or.inl ⟨by rfl, fun V hV => ?_⟩) ?_ ?_
      · obtain ⟨g0, g1, g2, g3, g4, g5, g6, _⟩ := hV
        go_simp
      · exact HS0
      conv => arg 9; simp [Act.put]
      refine wpAnyR_take (i := 3) (v := .pointer (some ⟨gc, 0, none⟩)) rfl (by kernel_rfl) (by kernel_rfl) (by kernel_rfl) (by kernel_rfl) (fun _ _ _ h => h) (Or.inl ⟨by rfl, fun V hV => ?_⟩) ?_ ?_
      · obtain ⟨g0, g1, g2, g3, g4, g5, g6, _⟩ := hV
        go_simp
      · exact HS0
      conv => arg 9; simp [Act.put]
      refine wpAnyR_take (i := 4) (v := .slice oc 0 cc) rfl (by kernel_rfl) (by kernel_rfl) (by kernel_rfl) (by kernel_rfl) (fun _ _ _ h => h) (Or.inl ⟨by rfl, fun V hV => ?_⟩) ?_ ?_
      · obtain ⟨g0, g1, g2, g3, g4, g5, g6, _⟩ := hV
        go_simp
      · exact HS0
      conv => arg 9; simp [Act.put]
      refine wpAnyR_take (i := 5) (v := .int .i64 0) rfl (by kernel_rfl) (by kernel_rfl) (by kernel_rfl) (by kernel_rfl) (fun _ _ _ h => h) (Or.inl ⟨by rfl, fun V hV => ?_⟩) ?_ ?_
      · obtain ⟨g0, g1, g2, g3, g4, g5, g6, _⟩ := hV
        go_simp
      · exact HS0
      conv => arg 9; simp [Act.put]
      refine wpAnyR_take (i := 6) (v := .bool false) rfl (by kernel_rfl) (by kernel_rfl) (by kernel_rfl) (by kernel_rfl) (fun _ _ _ h => h) (Or.inl ⟨by rfl, fun V hV => ?_⟩) ?_ ?_
      · obtain ⟨g0, g1, g2, g3, g4, g5, g6, _⟩ := hV
        go_simp
      · exact HS0
      conv => arg 9; simp [Act.put]
      refine wpAnyR_take (i := 7) (v := .bool false) rfl (by kernel_rfl) (by kernel_rfl) (by kernel_rfl) (by kernel_rfl) (fun _ _ _ h => h) (Or.inl ⟨by rfl, fun V hV => ?_⟩) ?_ ?_
      · obtain ⟨g0, g1, g2, g3, g4, g5, g6, _⟩ := hV
        go_simp
      · exact HS0
      conv => arg 9; simp [Act.put]
      refine wpAnyR_take (i := 8) (v := .bool false) rfl (by kernel_rfl) (by kernel_rfl) (by kernel_rfl) (by kernel_rfl) (fun _ _ _ h => h) (Or.inl ⟨by rfl, fun V hV => ?_⟩) ?_ ?_
      · obtain ⟨g0, g1, g2, g3, g4, g5, g6, _⟩ := hV
        go_simp
      · exact HS0
      conv => arg 9; simp [Act.put]
      refine wpAnyR_take (i := 9) (v := .pointer (some ⟨gc, 1, none⟩)) rfl (by kernel_rfl) (by kernel_rfl) (by kernel_rfl) (by kernel_rfl) (fun _ _ _ h => h) (Or.inl ⟨by rfl, fun V hV => ?_⟩) ?_ ?_
      · obtain ⟨g0, g1, g2, g3, g4, g5, g6, _⟩ := hV
        go_simp
      · exact HS0
      conv => arg 9; simp [Act.put]
      refine wpAnyR_take (i := 10) (v := .slice (some ⟨gq, qoff, none⟩) 1 dc) rfl (by kernel_rfl) (by kernel_rfl) (by kernel_rfl) (by kernel_rfl) (fun _ _ _ h => h) (Or.inl ⟨by rfl, fun V hV => ?_⟩) ?_ ?_
      · obtain ⟨g0, g1, g2, g3, g4, g5, g6, _⟩ := hV
        go_simp
      · exact HS0
      conv => arg 9; simp [Act.put]
      refine wpAnyR_take (i := 11) (v := .int .i64 1) rfl (by kernel_rfl) (by kernel_rfl) (by kernel_rfl) (by kernel_rfl) (fun _ _ _ h => h) (Or.inl ⟨by rfl, fun V hV => ?_⟩) ?_ ?_
      · obtain ⟨g0, g1, g2, g3, g4, g5, g6, _⟩ := hV
        go_simp
      · exact HS0
      conv => arg 9; simp [Act.put]
      refine wpAnyR_take (i := 12) (v := .bool false) rfl (by kernel_rfl) (by kernel_rfl) (by kernel_rfl) (by kernel_rfl) (fun _ _ _ h => h) (Or.inl ⟨by rfl, fun V hV => ?_⟩) ?_ ?_
      · obtain ⟨g0, g1, g2, g3, g4, g5, g6, _⟩ := hV
        go_simp
      · exact HS0
      conv => arg 9; simp [Act.put]
      refine wpAnyR_take (i := 13) (v := .bool false) rfl (by kernel_rfl) (by kernel_rfl) (by kernel_rfl) (by kernel_rfl) (fun _ _ _ h => h) (Or.inl ⟨by rfl, fun V hV => ?_⟩) ?_ ?_
      · obtain ⟨g0, g1, g2, g3, g4, g5, g6, _⟩ := hV
        go_simp
      · exact HS0
      conv => arg 9; simp [Act.put]
      refine wpAnyR_take (i := 14) (v := .bool false) rfl (by kernel_rfl) (by kernel_rfl) (by kernel_rfl) (by kernel_rfl) (fun _ _ _ h => h) (Or.inl ⟨by rfl, fun V hV => ?_⟩) ?_ ?_
      · obtain ⟨g0, g1, g2, g3, g4, g5, g6, _⟩ := hV
        go_simp
      · exact HS0
      conv => arg 9; simp [Act.put]
      refine wpAnyR_take (i := 15) (v := .pointer (some ⟨gc, 1, none⟩)) rfl (by kernel_rfl) (by kernel_rfl) (by kernel_rfl) (by kernel_rfl) (fun _ _ _ h => h) (Or.inl ⟨by rfl, fun V hV => ?_⟩) ?_ ?_
      · obtain ⟨g0, g1, g2, g3, g4, g5, g6, _⟩ := hV
        go_simp
      · exact HS0
      conv => arg 9; simp [Act.put]
      refine wpAnyR_take (i := 16) (v := .slice (some ⟨gq, qoff, none⟩) 1 dc) rfl (by kernel_rfl) (by kernel_rfl) (by kernel_rfl) (by kernel_rfl) (fun _ _ _ h => h) (Or.inl ⟨by rfl, fun V hV => ?_⟩) ?_ ?_
      · obtain ⟨g0, g1, g2, g3, g4, g5, g6, _⟩ := hV
        go_simp
      · exact HS0
      conv => arg 9; simp [Act.put]
      refine wpAnyR_take (i := 17) (v := .pointer (some ⟨gq, qoff, none⟩)) rfl (by kernel_rfl) (by kernel_rfl) (by kernel_rfl) (by kernel_rfl) (fun _ _ _ h => h) (Or.inl ⟨by rfl, fun V hV => ?_⟩) ?_ ?_
      · obtain ⟨g0, g1, g2, g3, g4, g5, g6, _⟩ := hV
        go_simp
      · exact HS0
      conv => arg 9; simp [Act.put]
      refine wpAnyR_take (i := 18) (v := .int .i64 u) rfl (by kernel_rfl) (by kernel_rfl) (by kernel_rfl) (by kernel_rfl) (fun _ _ _ h => h) (Or.inl ⟨by rfl, fun V hV => ?_⟩) ?_ ?_
      · obtain ⟨g0, g1, g2, g3, g4, g5, g6, _⟩ := hV
        go_simp
      · exact HS0
      conv => arg 9; simp [Act.put]
      refine wpAnyR_take (i := 19) (v := .bool false) rfl (by kernel_rfl) (by kernel_rfl) (by kernel_rfl) (by kernel_rfl) (fun _ _ _ h => h) (Or.inl ⟨by rfl, fun V hV => ?_⟩) ?_ ?_
      · obtain ⟨g0, g1, g2, g3, g4, g5, g6, _⟩ := hV
        go_simp
      · exact HS0
      conv => arg 9; simp [Act.put]
      refine wpAnyR_take (i := 20) (v := .agg #[.slice so sn sc, .slice ao an ac]) rfl (by kernel_rfl) (by kernel_rfl) (by kernel_rfl) (by kernel_rfl) (fun _ _ _ h => h) (Or.inl ⟨by rfl, fun V hV => ?_⟩) ?_ ?_
      · obtain ⟨g0, g1, g2, g3, g4, g5, g6, _⟩ := hV
        go_simp
      · exact HS0
      conv => arg 9; simp [Act.put]
      refine wpAnyR_take (i := 21) (v := .agg #[.slice uo un uc, .slice bo bn bc]) rfl (by kernel_rfl) (by kernel_rfl) (by kernel_rfl) (by kernel_rfl) (fun _ _ _ h => h) (Or.inl ⟨by rfl, fun V hV => ?_⟩) ?_ ?_
      · obtain ⟨g0, g1, g2, g3, g4, g5, g6, _⟩ := hV
        go_simp
      · exact HS0
      conv => arg 9; simp [Act.put]
      refine wpAnyR_one (i := 22) (by kernel_rfl) rfl (fun K hK => ?_)
      go_simp
      go_wp2_with (go_at_call 15; (with_reducible refine (cE _ F4v.drew.x F4v.drew.y).mono ?_); rintro e v5 ⟨rfl, g5⟩; have G5 := F4v.drew.below g5; have HS5 := al' _ G5; refine hK _ _ ⟨fun _ => HS5, ?_⟩; clear hK)
      conv => arg 9; simp [Act.put]
      refine wpAnyR_take (i := 23) (v := .bool false) rfl (by kernel_rfl) (by kernel_rfl) (by kernel_rfl) (by kernel_rfl) (fun _ _ _ h => h) (Or.inl ⟨by rfl, fun V hV => ?_⟩) ?_ ?_
      · obtain ⟨g0, g1, g2, g3, g4, g5, g6, _⟩ := hV
        go_simp
      · exact HS5
      conv => arg 9; simp [Act.put]
      refine wpAnyR_take (i := 24) (v := .bool false) rfl (by kernel_rfl) (by kernel_rfl) (by kernel_rfl) (by kernel_rfl) (fun _ _ _ h => h) (Or.inl ⟨by rfl, fun V hV => ?_⟩) ?_ ?_
      · obtain ⟨g0, g1, g2, g3, g4, g5, g6, _⟩ := hV
        go_simp
      · exact HS5
      conv => arg 9; simp [Act.put]
      refine wpAnyR_take (i := 25) (v := .bool false) rfl (by kernel_rfl) (by kernel_rfl) (by kernel_rfl) (by kernel_rfl) (fun _ _ _ h => h) (Or.inl ⟨by rfl, fun V hV => ?_⟩) ?_ ?_
      · obtain ⟨g0, g1, g2, g3, g4, g5, g6, _⟩ := hV
        go_simp
      · exact HS5
      conv => arg 9; simp [Act.put]
      refine wpAnyR_take (i := 26) (v := .pointer (some ⟨gc, 1, none⟩)) rfl (by kernel_rfl) (by kernel_rfl) (by kernel_rfl) (by kernel_rfl) (fun _ _ _ h => h) (Or.inl ⟨by rfl, fun V hV => ?_⟩) ?_ ?_
      · obtain ⟨g0, g1, g2, g3, g4, g5, g6, _⟩ := hV
        go_simp
      · exact HS5
      conv => arg 9; simp [Act.put]
      refine wpAnyR_take (i := 27) (v := .slice (some ⟨gq, qoff, none⟩) 1 dc) rfl (by kernel_rfl) (by kernel_rfl) (by kernel_rfl) (by kernel_rfl) (fun _ _ _ h => h) (Or.inl ⟨by rfl, fun V hV => ?_⟩) ?_ ?_
      · obtain ⟨g0, g1, g2, g3, g4, g5, g6, _⟩ := hV
        go_simp
      · exact HS5
      conv => arg 9; simp [Act.put]
      refine wpAnyR_take (i := 28) (v := .pointer (some ⟨gq, qoff, none⟩)) rfl (by kernel_rfl) (by kernel_rfl) (by kernel_rfl) (by kernel_rfl) (fun _ _ _ h => h) (Or.inl ⟨by rfl, fun V hV => ?_⟩) ?_ ?_
      · obtain ⟨g0, g1, g2, g3, g4, g5, g6, _⟩ := hV
        go_simp
      · exact HS5
      conv => arg 9; simp [Act.put]
      refine wpAnyR_take (i := 29) (v := .int .i64 u) rfl (by kernel_rfl) (by kernel_rfl) (by kernel_rfl) (by kernel_rfl) (fun _ _ _ h => h) (Or.inl ⟨by rfl, fun V hV => ?_⟩) ?_ ?_
      · obtain ⟨g0, g1, g2, g3, g4, g5, g6, _⟩ := hV
        go_simp
      · exact HS5
      conv => arg 9; simp [Act.put]
      refine wpAnyR_take (i := 30) (v := .bool false) rfl (by kernel_rfl) (by kernel_rfl) (by kernel_rfl) (by kernel_rfl) (fun _ _ _ h => h) (Or.inl ⟨by rfl, fun V hV => ?_⟩) ?_ ?_
      · obtain ⟨g0, g1, g2, g3, g4, g5, g6, _⟩ := hV
        go_simp
      · exact HS5
      conv => arg 9; simp [Act.put]
      refine wpAnyR_take (i := 31) (v := .bool false) rfl (by kernel_rfl) (by kernel_rfl) (by kernel_rfl) (by kernel_rfl) (fun _ _ _ h => h) (Or.inl ⟨by rfl, fun V hV => ?_⟩) ?_ ?_
      · obtain ⟨g0, g1, g2, g3, g4, g5, g6, _⟩ := hV
        go_simp
      · exact HS5
      conv => arg 9; simp [Act.put]
      refine wpAnyR_take (i := 32) (v := undef) rfl (by kernel_rfl) (by kernel_rfl) (by kernel_rfl) (by kernel_rfl) (fun _ _ _ h => h) (Or.inr ⟨by rfl, rfl⟩) ?_ ?_
      · exact HS5
      conv => arg 9; simp [Act.put]
      refine wpAnyR_take (i := 33) (v := undef) rfl (by kernel_rfl) (by kernel_rfl) (by kernel_rfl) (by kernel_rfl) (fun _ _ _ h => h) (Or.inr ⟨by rfl, rfl⟩) ?_ ?_
      · exact HS5
      conv => arg 9; simp [Act.put]
      refine wpAnyR_take (i := 34) (v := undef) rfl (by kernel_rfl) (by kernel_rfl) (by kernel_rfl) (by kernel_rfl) (fun _ _ _ h => h) (Or.inr ⟨by rfl, rfl⟩) ?_ ?_
      · exact HS5
      conv => arg 9; simp [Act.put]
      refine wpAnyR_take (i := 35) (v := undef) rfl (by kernel_rfl) (by kernel_rfl) (by kernel_rfl) (by kernel_rfl) (fun _ _ _ h => h) (Or.inr ⟨by rfl, rfl⟩) ?_ ?_
      · exact HS5
      conv => arg 9; simp [Act.put]
      refine wpAnyR_take (i := 36) (v := undef) rfl (by kernel_rfl) (by kernel_rfl) (by kernel_rfl) (by kernel_rfl) (fun _ _ _ h => h) (Or.inr ⟨by rfl, rfl⟩) ?_ ?_
      · exact HS5
      conv => arg 9; simp [Act.put]
      refine wpAnyR_take (i := 37) (v := .bool false) rfl (by kernel_rfl) (by kernel_rfl) (by kernel_rfl) (by kernel_rfl) (fun _ _ _ h => h) (Or.inl ⟨by rfl, fun V hV => ?_⟩) ?_ ?_
      · obtain ⟨g0, g1, g2, g3, g4, g5, g6, _⟩ := hV
        go_simp
      · exact HS5
      conv => arg 9; simp [Act.put]
      refine wpAnyR_take (i := 38) (v := .bool false) rfl (by kernel_rfl) (by kernel_rfl) (by kernel_rfl) (by kernel_rfl) (fun _ _ _ h => h) (Or.inl ⟨by rfl, fun V hV => ?_⟩) ?_ ?_
      · obtain ⟨g0, g1, g2, g3, g4, g5, g6, _⟩ := hV
        go_simp
      · exact HS5
      conv => arg 9; simp [Act.put]
      refine wpAnyR_done (by kernel_rfl) ?_ _
      go_wp2
      go_meet
      case rel => exact ⟨rfl, G5⟩
    · have al' : ∀ V, Fw w V so sn sc ao an ac uo un uc bo bn bc ga oa na ca pa ma da gc oc 0 cc (some ⟨gq, qoff, none⟩) 1 dc sh at' th bt' [] [] [] [u] → V.cell? ⟨gc, 0, none⟩ = some (.slice oc 0 cc) ∧ V.cell? ⟨gc, 1, none⟩ = some (.slice (some ⟨gq, qoff, none⟩) 1 dc) ∧ V.cell? ⟨gq, qoff, none⟩ = some (.int .i64 u) ∧ V.cell? ⟨w.heap.size, 0, none⟩ = some (.slice so sn sc) ∧ V.cell? ⟨w.heap.size, 1, none⟩ = some (.slice ao an ac) ∧ V.cell? ⟨w.heap.size + 1, 0, none⟩ = some (.slice uo un uc) ∧ V.cell? ⟨w.heap.size + 1, 1, none⟩ = some (.slice bo bn bc) ∧ Fw w V so sn sc ao an ac uo un uc bo bn bc ga oa na ca pa ma da gc oc 0 cc (some ⟨gq, qoff, none⟩) 1 dc sh at' th bt' [] [] [] [u] := al
      have F4v : Fw w W4 so sn sc ao an ac uo un uc bo bn bc ga oa na ca pa ma da gc oc 0 cc (some ⟨gq, qoff, none⟩) 1 dc sh at' th bt' [] [] [] [u] := F4
      clear al F4
      have hu : (1 : Int) = u := HU.out
      have b1 : (u == 1) = true := by rw [← hu]; rfl
      have b2 : (u != 0) = true := by rw [← hu]; rfl
      have b3 : (u != 1) = false := by rw [← hu]; rfl
      clear hu
      go_region_held3 (fun V => V.cell? ⟨gc, 0, none⟩ = some (.slice oc 0 cc) ∧ V.cell? ⟨gc, 1, none⟩ = some (.slice (some ⟨gq, qoff, none⟩) 1 dc) ∧ V.cell? ⟨gq, qoff, none⟩ = some (.int .i64 u) ∧ V.cell? ⟨w.heap.size, 0, none⟩ = some (.slice so sn sc) ∧ V.cell? ⟨w.heap.size, 1, none⟩ = some (.slice ao an ac) ∧ V.cell? ⟨w.heap.size + 1, 0, none⟩ = some (.slice uo un uc) ∧ V.cell? ⟨w.heap.size + 1, 1, none⟩ = some (.slice bo bn bc) ∧ Fw w V so sn sc ao an ac uo un uc bo bn bc ga oa na ca pa ma da gc oc 0 cc (some ⟨gq, qoff, none⟩) 1 dc sh at' th bt' [] [] [] [u]) (first | exact al' _ (by assumption) | exact al' _ (Fw.drew (by assumption)))
        (first
          | (go_at_call 15; have HB := (‹_ ∧ _ ∧ _ ∧ _ ∧ _ ∧ _ ∧ _ ∧ Fw w _ _ _ _ _ _ _ _ _ _ _ _ _ _ _ _ _ _ _ _ _ _ _ _ _ _ _ _ _ _ _ _ _ _ _›).2.2.2.2.2.2.2; (with_reducible refine (cE _ HB.x HB.y).mono ?_); rintro e v5 ⟨rfl, g5⟩; have G5 := HB.below g5))
      go_wp2
      go_meet
      case rel => exact ⟨rfl, G5⟩
  case rest =>
    obtain ⟨rfl, F5⟩ := hcut
    have t9 : ((sn : Int) != 0) = true := by simp; omega
    obtain ⟨v0, v1, _, _⟩ := box2 F5.x.box
    obtain ⟨v2, v3, _, _⟩ := box2 F5.a.box
    clear cF cM cX cY cE hcq
    go_wp2_with (first
      | (go_at_call 15; (with_reducible refine (eqT _ _ _ _ _ _ _ _ _ _ _ _ _ _ _ F5.a.s F5.a.a (Rd.nil _) (Rd.nil _)).mono ?_); rintro e W6 ⟨rfl, k6⟩; have F6 := F5.below k6))
    go_ret
    exact ⟨rfl, F6.bel⟩

end Go.Proofs.Ytlncjmeabonpfaa
