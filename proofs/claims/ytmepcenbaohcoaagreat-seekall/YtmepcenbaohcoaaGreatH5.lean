
/- The memory in which an array is handed in is filled, great rows let go first: the walk. -/

import Derived.Test.YtmepcenbaohcoaaGreatH4

namespace Go.Proofs.YtmepcenbaohcoaaGreat

open Go.RowKit

set_option linter.unusedVariables false

set_option maxHeartbeats 20000000 in
set_option maxRecDepth 20000 in
theorem lay_big1 (hb B : Nat) (go0 go1 : Option Addr) (n0 n1 : Nat) (so ao : Option Addr) (sn sc an ac : Nat) (sh at' : List Int) (w : World) (hx : Hx w B hb go0 n0 go1 n1) (hs : Rd w so sn sh) (ss : Sl so sn sc) (ha : Rd w ao an at') (sa : Sl ao an ac) (ls : 0 < sn → ∀ b off, so = some ⟨b, off, none⟩ → b < B) (la : 0 < an → ∀ b off, ao = some ⟨b, off, none⟩ → b < B) (hB : B ≤ w.heap.size)
    (h1 : sn ≤ 5000) (h2 : an ≤ 5000) (f0 : sn + 70000 < n0) :
    Calls Tryz.prog 8 #[.pointer (some ⟨hb, 0, none⟩), .agg #[.slice so sn sc, .slice ao an ac]] w fun e w' => ∃ g0 c0 g1 c1, e = .returned (.agg #[.slice (some ⟨g0, 0, none⟩) sn c0, .slice (some ⟨g1, 0, none⟩) an c1]) ∧ Ld w w' B hb go0 go1 sn an sh at' g0 c0 g1 c1 ∧ Kp w w' (fun b => b = hb ∨ some b = ownB go0 ∨ some b = ownB go1) := by
  have t := two_boxes w so ao none none sn sc an ac 0 0 0 0
  have b0 := allocNew w (.cells #[.slice so sn sc, .slice ao an ac] 30)
  have b1 := allocNew (w.alloc (.cells #[.slice so sn sc, .slice ao an ac] 30)) (.cells #[.slice none 0 0, .slice none 0 0] 30)
  have kb := box_below (w.alloc (.cells #[.slice so sn sc, .slice ao an ac] 30)) (.cells #[.slice none 0 0, .slice none 0 0] 30)
  rw [World.size_alloc] at b1
  have lh := (Array.getElem?_eq_some_iff.1 hx.box).1
  have L0 : La w ((w.alloc (.cells #[.slice so sn sc, .slice ao an ac] 30)).alloc (.cells #[.slice none 0 0, .slice none 0 0] 30)) B hb w.heap.size so sn sc ao an ac sh at' go0 go1 go0 n0 go1 n1 :=
    ⟨(t.bel.block hb lh).trans hx.box, hx.base, (kb.block _ (by simp)).trans b0, b1, hs.below t.bel (Nat.le_refl _), ha.below t.bel (Nat.le_refl _), ls, la, Kp.ofBelow t.bel, .inr rfl, .inr rfl, hB, rfl⟩
  have R00 := hx.r0.below t.bel
  have R10 := hx.r1.below t.bel
  have cs := fun W => short_any so ao sn sc an ac W
  rw [show (decide (sn ≤ 5000) && decide (an ≤ 5000)) = true by simp [h1, h2]] at cs
  have g1 : decide ((sn : Int) + 70000 < (n0 : Int)) = true := by simp; omega
  have hn0 := hx.r0.le
  have hn1 := hx.r1.le
  clear t b0 b1 kb
  go_enter Tryz.func8, Tryz.ntmps8
  go_wp2_with (go_at_call 19; refine (cs _).mono ?_; rintro e w1 ⟨rfl, k1⟩; have L1 := L0.below k1; have R01 := R00.below k1; have R11 := R10.below k1; obtain ⟨x1, x2, x3, x4, _⟩ := L1.all; obtain ⟨_, _, y1, y2⟩ := box2 L1.hbox)
  go_quiet (fail)
  go_wp2
  have L := (L1.below (below_drewN (Below.refl _ w1) nq)).nils
  have R0 := Rw.nil 3 (((w1.drewN nq).setCell ⟨hb, 0, none⟩ (.slice none 0 0)).setCell ⟨hb, 1, none⟩ (.slice none 0 0)) B
  have R1 := Rw.nil 2 (((w1.drewN nq).setCell ⟨hb, 0, none⟩ (.slice none 0 0)).setCell ⟨hb, 1, none⟩ (.slice none 0 0)) B
  clear L1 R01 R11 L0 R00 R10 cs x1 x2 x3 x4 y1 y2 k1 hx hs ha
  generalize (((w1.drewN nq).setCell ⟨hb, 0, none⟩ (.slice none 0 0)).setCell ⟨hb, 1, none⟩ (.slice none 0 0)) = W at *
  obtain ⟨ho0, e0⟩ : ∃ ho0 : Option Addr, ho0 = none := ⟨_, rfl⟩
  obtain ⟨ho1, e1⟩ : ∃ ho1 : Option Addr, ho1 = none := ⟨_, rfl⟩
  obtain ⟨m0, e2⟩ : ∃ m0 : Nat, m0 = 0 := ⟨_, rfl⟩
  obtain ⟨m1, e3⟩ : ∃ m1 : Nat, m1 = 0 := ⟨_, rfl⟩
  replace L : La w W B hb w.heap.size so sn sc ao an ac sh at' go0 go1 ho0 m0 ho1 m1 := by rw [e0, e1, e2, e3]; exact L
  replace R0 : Rw 3 W B ho0 m0 := by rw [e0, e2]; exact R0
  replace R1 : Rw 2 W B ho1 m1 := by rw [e1, e3]; exact R1
  clear e0 e1 e2 e3 hn0 hn1
  have hm0 := R0.le
  have hm1 := R1.le
  go_cut [5] (fun s5 V => ∃ g0 c0, s5 = .slice (some ⟨g0, 0, none⟩) (sn + 2) c0 ∧ A0 3 w V B ho0 sn sh g0 c0 ∧ La w V B hb w.heap.size so sn sc ao an ac sh at' go0 go1 ho0 m0 ho1 m1 ∧ Rw 2 V B ho1 m1)
  case first =>
    rcases R0.is with ⟨hr, hm⟩ | ⟨gx, hr, hgB, hgP⟩
    · subst hr hm
      go_region_held3 (fun V => V.cell? ⟨hb, 0, none⟩ = some (.slice none 0 0) ∧ V.cell? ⟨hb, 1, none⟩ = some (.slice ho1 m1 m1) ∧ V.cell? ⟨w.heap.size, 0, none⟩ = some (.slice so sn sc) ∧ V.cell? ⟨w.heap.size, 1, none⟩ = some (.slice ao an ac) ∧ La w V B hb w.heap.size so sn sc ao an ac sh at' go0 go1 none 0 ho1 m1 ∧ Rw 2 V B ho1 m1) (first | exact S6 L9 N9 | exact S6 L7 N7 | exact S6a (by assumption) _ | exact S6 L.drew (R1.below (Below.refl _ _).drew))
        (first
          | (have HS := (‹_ ∧ _ ∧ _ ∧ _ ∧ La w _ B hb w.heap.size so sn sc ao an ac sh at' go0 go1 none 0 ho1 m1 ∧ _›); have sz7 := HS.2.2.2.2.1.kp.size; refine step_joinW tyI rfl (.tmp 51) (.tmp 53) rfl B sn _ _ _ _ _ _ [] sh (Nat.zero_add _) rfl rfl (by first | exact (R0.below (Below.refl _ _).drew).ft | exact ((R0.below (Below.refl _ _).drew).below (box_below _ _)).ft) HS.2.2.2.2.1.s ss (by omega) (Nat.le_trans HS.2.2.2.2.1.szB sz7) ?_; intro co7 c7 w7 f7 gr7 ow7; rw [List.nil_append] at f7; have L7 := HS.2.2.2.2.1.append (e := 3) ⟨by decide, by decide⟩ (by first | exact (R0.below (Below.refl _ _).drew).ft | exact ((R0.below (Below.refl _ _).drew).below (box_below _ _)).ft) (.inl rfl) gr7; have N7 := Rw.other HS.2.2.2.2.2 gr7 (fun g hg => (Ft.rows (e := 3) (by first | exact (R0.below (Below.refl _ _).drew).ft | exact ((R0.below (Below.refl _ _).drew).below (box_below _ _)).ft) g (by rw [own_slice] at hg; exact hg)).2) (by decide); (first | (have lt7 : Rd w7 (some ⟨W.heap.size, 0, none⟩) 2 zz := lit_keep (X := W.drew) (R0.below (Below.refl _ _).drew) gr7) | skip); rw [own_slice, own_slice] at ow7; clear HS)
          | (have HS := (‹_ ∧ _ ∧ _ ∧ _ ∧ La w _ B hb w.heap.size so sn sc ao an ac sh at' go0 go1 none 0 ho1 m1 ∧ _›); have sz9 := HS.2.2.2.2.1.kp.size; refine step_joinW tyI rfl (.tmp 54) (.tmp 55) rfl B (sn + 2) _ _ _ _ _ _ sh zz rfl rfl rfl (by first | exact f7 | exact f7.below (box_below _ _) (Nat.le_refl _)) (by first | exact lt7 | exact (lit_ft 3 w7).rd) (lit_sl _) (by omega) (Nat.le_trans HS.2.2.2.2.1.szB sz9) ?_; intro co9 c9 w9 f9 gr9 ow9; have L9 := HS.2.2.2.2.1.append (e := 3) ⟨by decide, by decide⟩ (by first | exact f7 | exact f7.below (box_below _ _) (Nat.le_refl _)) (own_one ow7 (.inl rfl) sz7) gr9; have N9 := Rw.other HS.2.2.2.2.2 gr9 (fun g hg => (Ft.rows (e := 3) (by first | exact f7 | exact f7.below (box_below _ _) (Nat.le_refl _)) g (by rw [own_slice] at hg; exact hg)).2) (by decide); rw [own_slice, own_slice] at ow9; have OW := own_two (w := w) ow7 ow9 sz7 sz9; clear HS))
      all_goals
        go_wp2
        go_meet
        case rel =>
          obtain ⟨g0, e0, X0⟩ := a0_of rfl f9 OW R0.shape
          subst e0
          exact ⟨g0, c9, rfl, X0, L9, N9⟩
    · subst hr
      go_region_held3 (fun V => V.cell? ⟨hb, 0, none⟩ = some (.slice (some ⟨gx, 0, none⟩) m0 m0) ∧ V.cell? ⟨hb, 1, none⟩ = some (.slice ho1 m1 m1) ∧ V.cell? ⟨w.heap.size, 0, none⟩ = some (.slice so sn sc) ∧ V.cell? ⟨w.heap.size, 1, none⟩ = some (.slice ao an ac) ∧ La w V B hb w.heap.size so sn sc ao an ac sh at' go0 go1 (some ⟨gx, 0, none⟩) m0 ho1 m1 ∧ Rw 2 V B ho1 m1) (first | exact S6 L9 N9 | exact S6 L7 N7 | exact S6a (by assumption) _ | exact S6 L.drew (R1.below (Below.refl _ _).drew))
        (first
          | (have HS := (‹_ ∧ _ ∧ _ ∧ _ ∧ La w _ B hb w.heap.size so sn sc ao an ac sh at' go0 go1 (some ⟨gx, 0, none⟩) m0 ho1 m1 ∧ _›); have sz7 := HS.2.2.2.2.1.kp.size; refine step_joinW tyI rfl (.tmp 51) (.tmp 53) rfl B sn _ _ _ _ _ _ [] sh (Nat.zero_add _) rfl rfl (by first | exact (R0.below (Below.refl _ _).drew).ft | exact ((R0.below (Below.refl _ _).drew).below (box_below _ _)).ft) HS.2.2.2.2.1.s ss (by omega) (Nat.le_trans HS.2.2.2.2.1.szB sz7) ?_; intro co7 c7 w7 f7 gr7 ow7; rw [List.nil_append] at f7; have L7 := HS.2.2.2.2.1.append (e := 3) ⟨by decide, by decide⟩ (by first | exact (R0.below (Below.refl _ _).drew).ft | exact ((R0.below (Below.refl _ _).drew).below (box_below _ _)).ft) (.inl rfl) gr7; have N7 := Rw.other HS.2.2.2.2.2 gr7 (fun g hg => (Ft.rows (e := 3) (by first | exact (R0.below (Below.refl _ _).drew).ft | exact ((R0.below (Below.refl _ _).drew).below (box_below _ _)).ft) g (by rw [own_slice] at hg; exact hg)).2) (by decide); (first | (have lt7 : Rd w7 (some ⟨W.heap.size, 0, none⟩) 2 zz := lit_keep (X := W.drew) (R0.below (Below.refl _ _).drew) gr7) | skip); rw [own_slice, own_slice] at ow7; clear HS)
          | (have HS := (‹_ ∧ _ ∧ _ ∧ _ ∧ La w _ B hb w.heap.size so sn sc ao an ac sh at' go0 go1 (some ⟨gx, 0, none⟩) m0 ho1 m1 ∧ _›); have sz9 := HS.2.2.2.2.1.kp.size; refine step_joinW tyI rfl (.tmp 54) (.tmp 55) rfl B (sn + 2) _ _ _ _ _ _ sh zz rfl rfl rfl (by first | exact f7 | exact f7.below (box_below _ _) (Nat.le_refl _)) (by first | exact lt7 | exact (lit_ft 3 w7).rd) (lit_sl _) (by omega) (Nat.le_trans HS.2.2.2.2.1.szB sz9) ?_; intro co9 c9 w9 f9 gr9 ow9; have L9 := HS.2.2.2.2.1.append (e := 3) ⟨by decide, by decide⟩ (by first | exact f7 | exact f7.below (box_below _ _) (Nat.le_refl _)) (own_one ow7 (.inl rfl) sz7) gr9; have N9 := Rw.other HS.2.2.2.2.2 gr9 (fun g hg => (Ft.rows (e := 3) (by first | exact f7 | exact f7.below (box_below _ _) (Nat.le_refl _)) g (by rw [own_slice] at hg; exact hg)).2) (by decide); rw [own_slice, own_slice] at ow9; have OW := own_two (w := w) ow7 ow9 sz7 sz9; clear HS))
      all_goals
        go_wp2
        go_meet
        case rel =>
          obtain ⟨g0, e0, X0⟩ := a0_of rfl f9 OW R0.shape
          subst e0
          exact ⟨g0, c9, rfl, X0, L9, N9⟩
  case rest =>
    clear L R0 R1
    obtain ⟨g0, c0, rfl, X0, L, R1⟩ := hcut
    go_wp2
    go_cut [6] (fun s6 V => ∃ g1 c1, s6 = .slice (some ⟨g1, 0, none⟩) (an + 2) c1 ∧ A0 2 w V B ho1 an at' g1 c1 ∧ La w V B hb w.heap.size so sn sc ao an ac sh at' go0 go1 ho0 m0 ho1 m1 ∧ A0 3 w V B ho0 sn sh g0 c0)
    case first =>
      rcases R1.is with ⟨hr, hm⟩ | ⟨gx, hr, hgB, hgP⟩
      · subst hr hm
        go_region_held3 (fun V => V.cell? ⟨hb, 0, none⟩ = some (.slice ho0 m0 m0) ∧ V.cell? ⟨hb, 1, none⟩ = some (.slice none 0 0) ∧ V.cell? ⟨w.heap.size, 0, none⟩ = some (.slice so sn sc) ∧ V.cell? ⟨w.heap.size, 1, none⟩ = some (.slice ao an ac) ∧ La w V B hb w.heap.size so sn sc ao an ac sh at' go0 go1 ho0 m0 none 0 ∧ A0 3 w V B ho0 sn sh g0 c0) (first | exact S6 L9 N9 | exact S6 L7 N7 | exact S7a (by assumption) _ | exact S6 L.drew (X0.below (Below.refl _ _).drew))
          (first
            | (have HS := (‹_ ∧ _ ∧ _ ∧ _ ∧ La w _ B hb w.heap.size so sn sc ao an ac sh at' go0 go1 ho0 m0 none 0 ∧ _›); have sz7 := HS.2.2.2.2.1.kp.size; refine step_joinW tyL rfl (.tmp 61) (.tmp 63) rfl B an _ _ _ _ _ _ [] at' (Nat.zero_add _) rfl rfl (by first | exact (R1.below (Below.refl _ _).drew).ft | exact ((R1.below (Below.refl _ _).drew).below (box_below _ _)).ft) HS.2.2.2.2.1.a sa (by omega) (Nat.le_trans HS.2.2.2.2.1.szB sz7) ?_; intro co7 c7 w7 f7 gr7 ow7; rw [List.nil_append] at f7; have L7 := HS.2.2.2.2.1.append (e := 2) ⟨by decide, by decide⟩ (by first | exact (R1.below (Below.refl _ _).drew).ft | exact ((R1.below (Below.refl _ _).drew).below (box_below _ _)).ft) (.inr (.inl rfl)) gr7; have N7 : A0 3 w _ B ho0 sn sh g0 c0 := ⟨Ft.other HS.2.2.2.2.2.f gr7 (fun g hg => (Ft.rows (e := 2) (by first | exact (R1.below (Below.refl _ _).drew).ft | exact ((R1.below (Below.refl _ _).drew).below (box_below _ _)).ft) g (by rw [own_slice] at hg; exact hg)).2) (by decide), HS.2.2.2.2.2.at'⟩; (first | (have lt7 : Rd w7 (some ⟨wc.heap.size, 0, none⟩) 2 zz := lit_keep (X := wc.drew) (R1.below (Below.refl _ _).drew) gr7) | skip); rw [own_slice, own_slice] at ow7; clear HS)
            | (have HS := (‹_ ∧ _ ∧ _ ∧ _ ∧ La w _ B hb w.heap.size so sn sc ao an ac sh at' go0 go1 ho0 m0 none 0 ∧ _›); have sz9 := HS.2.2.2.2.1.kp.size; refine step_joinW tyL rfl (.tmp 64) (.tmp 65) rfl B (an + 2) _ _ _ _ _ _ at' zz rfl rfl rfl (by first | exact f7 | exact f7.below (box_below _ _) (Nat.le_refl _)) (by first | exact lt7 | exact (lit_ft 2 w7).rd) (lit_sl _) (by omega) (Nat.le_trans HS.2.2.2.2.1.szB sz9) ?_; intro co9 c9 w9 f9 gr9 ow9; have L9 := HS.2.2.2.2.1.append (e := 2) ⟨by decide, by decide⟩ (by first | exact f7 | exact f7.below (box_below _ _) (Nat.le_refl _)) (own_one ow7 (.inr rfl) sz7) gr9; have N9 : A0 3 w _ B ho0 sn sh g0 c0 := ⟨Ft.other HS.2.2.2.2.2.f gr9 (fun g hg => (Ft.rows (e := 2) (by first | exact f7 | exact f7.below (box_below _ _) (Nat.le_refl _)) g (by rw [own_slice] at hg; exact hg)).2) (by decide), HS.2.2.2.2.2.at'⟩; rw [own_slice, own_slice] at ow9; have OW := own_two (w := w) ow7 ow9 sz7 sz9; clear HS))
        all_goals
          go_wp2
          go_meet
          case rel =>
            obtain ⟨g1, e1, X1⟩ := a0_of rfl f9 OW R1.shape
            subst e1
            exact ⟨g1, c9, rfl, X1, L9, N9⟩
      · subst hr
        go_region_held3 (fun V => V.cell? ⟨hb, 0, none⟩ = some (.slice ho0 m0 m0) ∧ V.cell? ⟨hb, 1, none⟩ = some (.slice (some ⟨gx, 0, none⟩) m1 m1) ∧ V.cell? ⟨w.heap.size, 0, none⟩ = some (.slice so sn sc) ∧ V.cell? ⟨w.heap.size, 1, none⟩ = some (.slice ao an ac) ∧ La w V B hb w.heap.size so sn sc ao an ac sh at' go0 go1 ho0 m0 (some ⟨gx, 0, none⟩) m1 ∧ A0 3 w V B ho0 sn sh g0 c0) (first | exact S6 L9 N9 | exact S6 L7 N7 | exact S7a (by assumption) _ | exact S6 L.drew (X0.below (Below.refl _ _).drew))
          (first
            | (have HS := (‹_ ∧ _ ∧ _ ∧ _ ∧ La w _ B hb w.heap.size so sn sc ao an ac sh at' go0 go1 ho0 m0 (some ⟨gx, 0, none⟩) m1 ∧ _›); have sz7 := HS.2.2.2.2.1.kp.size; refine step_joinW tyL rfl (.tmp 61) (.tmp 63) rfl B an _ _ _ _ _ _ [] at' (Nat.zero_add _) rfl rfl (by first | exact (R1.below (Below.refl _ _).drew).ft | exact ((R1.below (Below.refl _ _).drew).below (box_below _ _)).ft) HS.2.2.2.2.1.a sa (by omega) (Nat.le_trans HS.2.2.2.2.1.szB sz7) ?_; intro co7 c7 w7 f7 gr7 ow7; rw [List.nil_append] at f7; have L7 := HS.2.2.2.2.1.append (e := 2) ⟨by decide, by decide⟩ (by first | exact (R1.below (Below.refl _ _).drew).ft | exact ((R1.below (Below.refl _ _).drew).below (box_below _ _)).ft) (.inr (.inl rfl)) gr7; have N7 : A0 3 w _ B ho0 sn sh g0 c0 := ⟨Ft.other HS.2.2.2.2.2.f gr7 (fun g hg => (Ft.rows (e := 2) (by first | exact (R1.below (Below.refl _ _).drew).ft | exact ((R1.below (Below.refl _ _).drew).below (box_below _ _)).ft) g (by rw [own_slice] at hg; exact hg)).2) (by decide), HS.2.2.2.2.2.at'⟩; (first | (have lt7 : Rd w7 (some ⟨wc.heap.size, 0, none⟩) 2 zz := lit_keep (X := wc.drew) (R1.below (Below.refl _ _).drew) gr7) | skip); rw [own_slice, own_slice] at ow7; clear HS)
            | (have HS := (‹_ ∧ _ ∧ _ ∧ _ ∧ La w _ B hb w.heap.size so sn sc ao an ac sh at' go0 go1 ho0 m0 (some ⟨gx, 0, none⟩) m1 ∧ _›); have sz9 := HS.2.2.2.2.1.kp.size; refine step_joinW tyL rfl (.tmp 64) (.tmp 65) rfl B (an + 2) _ _ _ _ _ _ at' zz rfl rfl rfl (by first | exact f7 | exact f7.below (box_below _ _) (Nat.le_refl _)) (by first | exact lt7 | exact (lit_ft 2 w7).rd) (lit_sl _) (by omega) (Nat.le_trans HS.2.2.2.2.1.szB sz9) ?_; intro co9 c9 w9 f9 gr9 ow9; have L9 := HS.2.2.2.2.1.append (e := 2) ⟨by decide, by decide⟩ (by first | exact f7 | exact f7.below (box_below _ _) (Nat.le_refl _)) (own_one ow7 (.inr rfl) sz7) gr9; have N9 : A0 3 w _ B ho0 sn sh g0 c0 := ⟨Ft.other HS.2.2.2.2.2.f gr9 (fun g hg => (Ft.rows (e := 2) (by first | exact f7 | exact f7.below (box_below _ _) (Nat.le_refl _)) g (by rw [own_slice] at hg; exact hg)).2) (by decide), HS.2.2.2.2.2.at'⟩; rw [own_slice, own_slice] at ow9; have OW := own_two (w := w) ow7 ow9 sz7 sz9; clear HS))
        all_goals
          go_wp2
          go_meet
          case rel =>
            obtain ⟨g1, e1, X1⟩ := a0_of rfl f9 OW R1.shape
            subst e1
            exact ⟨g1, c9, rfl, X1, L9, N9⟩
    case rest =>
      clear L R1 X0
      obtain ⟨g1, c1, rfl, X1, L, X0⟩ := hcut
      obtain ⟨P0, l0, u0, b0⟩ := X0.pr L.s.len mk7
      obtain ⟨P1, l1, u1, b1⟩ := X1.pr L.a.len mk8
      have at0 : go0 = some ⟨g0, 0, none⟩ ∨ w.heap.size ≤ g0 := by
        rcases X0.at' with e | e
        · rcases L.o0 with e' | e'
          · rw [e'] at e; cases e
          · exact .inl (e'.symm.trans e)
        · exact .inr e
      have at1 : go1 = some ⟨g1, 0, none⟩ ∨ w.heap.size ≤ g1 := by
        rcases X1.at' with e | e
        · rcases L.o1 with e' | e'
          · rw [e'] at e; cases e
          · exact .inl (e'.symm.trans e)
        · exact .inr e
      clear X0 X1
      obtain ⟨x1, x2, x3, x4, _⟩ := L.all
      go_wp2
      go_loopw [7] (fun i V => ∃ k : Nat, sn ≤ k ∧ k ≤ c0 ∧ i = .int .i64 (k : Nat) ∧ Pr 3 V g0 c0 k (mrk mk7 sh sn) ∧ Pr 2 V g1 c1 an (mrk mk8 at' an) ∧ La w V B hb w.heap.size so sn sc ao an ac sh at' go0 go1 ho0 m0 ho1 m1) (fun i _ => c0 - (intOf i).toNat)
      case atStart => exact ⟨sn, Nat.le_refl _, by omega, rfl, P0, P1, L⟩
      case round =>
        obtain ⟨k, hk1, hk2, rfl, Q0, Q1, LK⟩ := hrel
        clear P0 P1 L x1 x2 x3 x4
        by_cases hlt : k < c0
        · obtain ⟨v0, cv⟩ := Q0.is hlt
          have zv := Q0.frozen k
          have s1 := Q0.set hlt (mk7 k) (by unfold mrk; rw [if_neg (by omega)])
          have s2 := set1 wr g0 k (.int .i64 (mk7 k))
          have hne := rows_ne Q0 Q1
          have s3 := Q1.kept s2 (by intro e; cases e; exact hne rfl)
          have s4 := LK.row ⟨by decide, by decide⟩ Q0 b0 (by rcases at0 with e | e; exact .inl e; exact .inr (.inr e)) s2
          unfold mk7 at s1 s2 s3 s4
          go_wp2
          go_roundw
          case rel => exact ⟨k + 1, by omega, by omega, by go_num, s1, s3, s4⟩
          case measure => simp [intOf]; omega
        · obtain rfl : c0 = k := by omega
          obtain ⟨x1, x2, x3, x4, _⟩ := LK.all
          go_wp2
          go_loopw [8] (fun i V => ∃ k : Nat, an ≤ k ∧ k ≤ c1 ∧ i = .int .i64 (k : Nat) ∧ Pr 3 V g0 c0 c0 (mrk mk7 sh sn) ∧ Pr 2 V g1 c1 k (mrk mk8 at' an) ∧ La w V B hb w.heap.size so sn sc ao an ac sh at' go0 go1 ho0 m0 ho1 m1) (fun i _ => c1 - (intOf i).toNat)
          case atStart => exact ⟨an, Nat.le_refl _, by omega, rfl, Q0, Q1, LK⟩
          case round =>
            clear Q0 Q1 LK x1 x2 x3 x4
            obtain ⟨k, hk1, hk2, rfl, Q0, Q1, LK⟩ := hrel
            by_cases hlt : k < c1
            · obtain ⟨v0, cv⟩ := Q1.is hlt
              have zv := Q1.frozen k
              have s1 := Q1.set hlt (mk8 k) (by unfold mrk; rw [if_neg (by omega)])
              have s2 := set1 wr g1 k (.int .i64 (mk8 k))
              have hne := rows_ne Q0 Q1
              have s3 := Q0.kept s2 (by intro e; cases e; exact hne rfl)
              have s4 := LK.row ⟨by decide, by decide⟩ Q1 b1 (by rcases at1 with e | e; exact .inr (.inl e); exact .inr (.inr e)) s2
              unfold mk8 at s1 s2 s3 s4
              go_wp2
              go_roundw
              case rel => exact ⟨k + 1, by omega, by omega, by go_num, s3, s1, s4⟩
              case measure => simp [intOf]; omega
            · obtain rfl : c1 = k := by omega
              obtain ⟨x1, x2, x3, x4, _⟩ := LK.all
              obtain ⟨_, _, y1, y2⟩ := box2 LK.hbox
              have LE := LK.stored Q0 Q1 b0 b1 l0 l1 at0 at1
              clear Q0 Q1
              have q1 : (0 : Int) ≤ (sn : Int) := by omega
              have q2 : (sn : Int) ≤ (c0 : Int) := by omega
              have q3 : (0 : Int) ≤ (an : Int) := by omega
              have q4 : (an : Int) ≤ (c1 : Int) := by omega
              have q5 : ¬ c0 = 0 := by omega
              have q6 : ¬ c1 = 0 := by omega
              go_wp2
              clear LK x1 x2 x3 x4 y1 y2
              generalize ((wr.setCell ⟨hb, 0, none⟩ (.slice (some ⟨g0, 0, none⟩) c0 c0)).setCell ⟨hb, 1, none⟩ (.slice (some ⟨g1, 0, none⟩) c1 c1)) = V1 at *
              obtain ⟨rx, ry, hrb⟩ := LE.rbox
              obtain ⟨w0, w1', w2, w3⟩ := box2 hrb
              go_region_held3 (fun V => V.cell? ⟨w.heap.size, 0, none⟩ = some (.slice so sn sc) ∧ V.cell? ⟨w.heap.size, 1, none⟩ = some (.slice ao an ac) ∧ Le w V B hb w.heap.size so sn sc ao an ac sh at' go0 go1 g0 c0 g1 c1) (first | exact Le.all LE.drew | exact Le.all (LE.drew.set _ _))
                (first | fail)
              rename_i HS
              go_wp2
              (try simp only [Exit.inBlock, Exit.then])
              refine bodyPost_ret (v := .agg #[.slice (some ⟨g0, 0, none⟩) sn c0, .slice (some ⟨g1, 0, none⟩) an c1]) (by simp [results, Tryz.results8]; go_simp) rfl ?_
              exact ⟨g0, c0, g1, c1, rfl, HS.2.2.ld, HS.2.2.kp⟩
end Go.Proofs.YtmepcenbaohcoaaGreat
