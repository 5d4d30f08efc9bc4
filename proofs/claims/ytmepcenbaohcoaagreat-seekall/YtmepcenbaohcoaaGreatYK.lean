
/- Contracts of package seek: the items at some places. -/

import Derived.Test.YtmepcenbaohcoaaGreatYJ

namespace Go.Proofs.YtmepcenbaohcoaaGreat

open Go.RowKit

set_option linter.unusedVariables false

/-- Ahead of the rounds of chosen. -/
structure Cy (w V : World) (so : Option Addr) (sn sc : Nat) (ao : Option Addr) (an ac : Nat) (o1 : Option Addr) (n1 c1 : Nat) (sh1 : List Int) : Prop where
  bel : Below w.heap.size w V
  box : V.heap[w.heap.size]? = some (.cells #[.slice so sn sc, .slice ao an ac] 30 (0, 0))
  res : V.heap[w.heap.size + 1]? = some (.cells #[.slice none 0 0, .slice none 0 0] 30 (0, 0))
  out : V.heap[w.heap.size + 1 + 1 + 1]? = some (.cells #[.slice o1 n1 c1, .slice none 0 0] 30 (0, 0))
  f1 : Ft 3 V w.heap.size o1 n1 c1 sh1
theorem Cy.drew {w V : World} {so : Option Addr} {sn sc : Nat} {ao : Option Addr} {an ac : Nat} {o1 : Option Addr} {n1 c1 : Nat} {sh1 : List Int} (h : Cy w V so sn sc ao an ac o1 n1 c1 sh1) : Cy w V.drew so sn sc ao an ac o1 n1 c1 sh1 := by
  have b : Below V.heap.size V V.drew := (Below.refl _ _).drew
  have l := (Array.getElem?_eq_some_iff.1 h.out).1
  exact ⟨h.bel.drew, (b.block _ (by omega)).trans h.box, (b.block _ (by omega)).trans h.res, (b.block _ l).trans h.out, h.f1.below b (Nat.le_refl _)⟩
theorem Cy.all {w V : World} {so : Option Addr} {sn sc : Nat} {ao : Option Addr} {an ac : Nat} {o1 : Option Addr} {n1 c1 : Nat} {sh1 : List Int} (h : Cy w V so sn sc ao an ac o1 n1 c1 sh1) : V.cell? ⟨w.heap.size + 1 + 1 + 1, 0, none⟩ = some (.slice o1 n1 c1) ∧ V.cell? ⟨w.heap.size, 0, none⟩ = some (.slice so sn sc) ∧ Cy w V so sn sc ao an ac o1 n1 c1 sh1 :=
  ⟨(box2 h.out).1, (box2 h.box).1, h⟩
theorem Cy.grow {w V V' : World} {so : Option Addr} {sn sc : Nat} {ao : Option Addr} {an ac : Nat} {o1 co : Option Addr} {n1 c1 n3 c3 : Nat} {sh1 ys : List Int} (h : Cy w V so sn sc ao an ac o1 n1 c1 sh1)
    (f : Ft 3 V' w.heap.size co n3 c3 ys) (hg : V.grownBy V' (Value.slice o1 n1 c1).ownBlock) : Cy w (V'.setCell ⟨w.heap.size + 1 + 1 + 1, 0, none⟩ (.slice co n3 c3)) so sn sc ao an ac co n3 c3 ys := by
  have ne : ∀ b cs t, V.heap[b]? = some (.cells cs t (0, 0)) → 3 ≠ t → some b ≠ (Value.slice o1 n1 c1).ownBlock := fun b cs t hb ht e => by
    obtain ⟨off, e1⟩ := h.f1.obk e.symm
    exact h.f1.nebox hb ht b off e1 rfl
  have lo : ∀ b, b < w.heap.size → some b ≠ (Value.slice o1 n1 c1).ownBlock := fun b hb e => by
    obtain ⟨off, e1⟩ := h.f1.obk e.symm
    have := (h.f1.at b off e1).1; omega
  have lt : ∀ {b cs t}, V.heap[b]? = some (.cells cs t (0, 0)) → b < V.heap.size := fun hb => (Array.getElem?_eq_some_iff.1 hb).1
  have bV : Below w.heap.size w V' := ⟨hg.os.trans h.bel.os, hg.tape.trans h.bel.tape, hg.output.trans h.bel.output, Nat.le_trans h.bel.size hg.size, fun k hk => (hg.block k (Nat.lt_of_lt_of_le hk h.bel.size) (lo k hk)).trans (h.bel.block k hk)⟩
  have x' := (hg.block _ (lt h.box) (ne _ _ _ h.box ty_ne1)).trans h.box
  have r' := (hg.block _ (lt h.res) (ne _ _ _ h.res ty_ne1)).trans h.res
  have o' := (hg.block _ (lt h.out) (ne _ _ _ h.out ty_ne1)).trans h.out
  have k : V'.grownBy (V'.setCell ⟨w.heap.size + 1 + 1 + 1, 0, none⟩ (.slice co n3 c3)) (some (w.heap.size + 1 + 1 + 1)) := set1 _ _ _ _
  have s0 := lt h.out
  have s1 := hg.size
  refine ⟨bV.setCell (p := ⟨w.heap.size + 1 + 1 + 1, 0, none⟩) (show w.heap.size ≤ w.heap.size + 1 + 1 + 1 by omega) _, (k.block _ (by omega) (fun e => by injection e with e; omega)).trans x', (k.block _ (by omega) (fun e => by injection e with e; omega)).trans r', ?_, f.keep1 k (f.nebox o' ty_ne1)⟩
  have := heap_setCell_same V' (w.heap.size + 1 + 1 + 1) 0 _ 30 (.slice co n3 c3) o'
  simpa using this
theorem cy_start (w : World) (so : Option Addr) (sn sc : Nat) (ao : Option Addr) (an ac m : Nat) (hm : m ≤ 4096) :
    Cy w ((((w.alloc (.cells #[.slice so sn sc, .slice ao an ac] 30)).alloc (.cells #[.slice none 0 0, .slice none 0 0] 30)).alloc (.cells #[.int .i64 (m : Nat)] 3)).alloc (.cells #[.slice (some ⟨w.heap.size + 1 + 1, 0, none⟩) 1 1, .slice none 0 0] 30)) so sn sc ao an ac (some ⟨w.heap.size + 1 + 1, 0, none⟩) 1 1 [(m : Int)] := by
  have k1 := box_below w (.cells #[.slice so sn sc, .slice ao an ac] 30)
  have b1 := allocNew w (.cells #[.slice so sn sc, .slice ao an ac] 30)
  generalize hU1 : w.alloc (.cells #[.slice so sn sc, .slice ao an ac] 30) = U1 at *
  have z1 : U1.heap.size = w.heap.size + 1 := by rw [← hU1]; simp
  have k2 := box_below U1 (.cells #[.slice none 0 0, .slice none 0 0] 30)
  have b2 := allocNew U1 (.cells #[.slice none 0 0, .slice none 0 0] 30)
  have z2 : (U1.alloc (.cells #[.slice none 0 0, .slice none 0 0] 30)).heap.size = w.heap.size + 1 + 1 := by simp [z1]
  generalize U1.alloc (.cells #[.slice none 0 0, .slice none 0 0] 30) = U2 at *
  have k3 := box_below U2 (.cells #[.int .i64 (m : Nat)] 3)
  have f3 := ft_new 3 U2 [(m : Int)] (by simp) (fun j hj => by rw [show j = 0 by simp at hj; omega, show nth [(m : Int)] 0 = (m : Int) from rfl]; omega)
  have f3' : Ft 3 (U2.alloc (.cells #[.int .i64 (m : Nat)] 3)) U2.heap.size (some ⟨U2.heap.size, 0, none⟩) 1 1 [(m : Int)] := f3
  have z3 : (U2.alloc (.cells #[.int .i64 (m : Nat)] 3)).heap.size = w.heap.size + 1 + 1 + 1 := by simp [z2]
  generalize U2.alloc (.cells #[.int .i64 (m : Nat)] 3) = U3 at *
  rw [z2] at f3' k3
  rw [z1] at k2 b2
  have k4 := box_below U3 (.cells #[.slice (some ⟨w.heap.size + 1 + 1, 0, none⟩) 1 1, .slice none 0 0] 30)
  have b4 := allocNew U3 (.cells #[.slice (some ⟨w.heap.size + 1 + 1, 0, none⟩) 1 1, .slice none 0 0] 30)
  rw [z3] at k4 b4
  exact ⟨((k1.trans (k2.mono (by omega))).trans (k3.mono (by omega))).trans (k4.mono (by omega)), (k4.block _ (by omega)).trans ((k3.block _ (by omega)).trans ((k2.block _ (by omega)).trans b1)), (k4.block _ (by omega)).trans ((k3.block _ (by omega)).trans b2), b4, (f3'.below k4 (by omega)).mono (by omega)⟩

set_option linter.unusedSimpArgs false in
set_option maxHeartbeats 4000000 in
set_option maxRecDepth 20000 in
theorem chosen_any (so ao : Option Addr) (sn sc an ac : Nat) (sh at' : List Int) (po : Option Addr) (m pc : Nat) (ps : List Int) (w : World) (h : Rd w so sn sh) (hs : Sl so sn sc) (g : Rd w ao an at') (gs : Sl ao an ac) (h0 : mayA sh at' = 0)
    (hp : Rd w po m ps) (hm : m ≤ 4096) (hin : inN (itN sh) ps) :
    Calls Tryz.prog 65 #[.agg #[.slice so sn sc, .slice ao an ac], .slice po m pc] w fun e w' => ∃ o1 n1 c1 o2 n2 c2, e = .returned (.agg #[.slice o1 n1 c1, .slice o2 n2 c2]) ∧ Ft 3 w' w.heap.size o1 n1 c1 ((m : Int) :: sh.drop 1) ∧ Ft 2 w' w.heap.size o2 n2 c2 (chA (itX sh at') ps m) ∧ Below w.heap.size w w' := by
  have C0 := cy_start w so sn sc ao an ac m hm
  have hl := h.len
  have hsn8 : sn ≤ 8 := by rw [← hl]; exact (mayF_zero (mayA_zero h0).1).2.1
  have hal := at_len h0
  have hit := fun V (hV : Below w.heap.size w V) => itemsOf_any so ao sn sc an ac sh at' w V hV h hs g gs h0
  have HIN : Hid (inN (itN sh) ps) := hin
  have HXL : Hid (∀ k, (itX sh at' k).2.length ≤ 4096) := fun k => by
    show ((at'.drop _).take _).length ≤ 4096
    rw [List.length_take, List.length_drop]; omega
  have HPL : Hid (ps.length = m) := hp.len
  obtain ⟨x0, x1, x2, x3⟩ := box2 C0.box
  obtain ⟨sh1, hsh1⟩ : ∃ l, (m : Int) :: sh.drop 1 = l := ⟨_, rfl⟩
  rw [hsh1]
  have HD : Hid ((m : Int) :: sh.drop 1 = sh1) := hsh1
  clear hsh1 h0
  generalize itX sh at' = xs at *
  generalize itN sh = N at *
  go_enter Tryz.func65, Tryz.ntmps65
  go_upto_if 16 with fail
  generalize ((((w.alloc (.cells #[.slice so sn sc, .slice ao an ac] 30)).alloc (.cells #[.slice none 0 0, .slice none 0 0] 30)).alloc (.cells #[.int .i64 (m : Nat)] 3)).alloc (.cells #[.slice (some ⟨w.heap.size + 1 + 1, 0, none⟩) 1 1, .slice none 0 0] 30)) = U at *
  clear x0 x1 x2 x3
  go_cut [] from 16 to 23 (fun V => ∃ o1 n1 c1, Cy w V so sn sc ao an ac o1 n1 c1 sh1)
  case first =>
    by_cases z : sn = 0
    · have t1 : decide (0 < sn) = false := by simp; omega
      have e : (m : Int) :: sh.drop 1 = [(m : Int)] := by
        have : sh = [] := List.length_eq_zero_iff.1 (by omega)
        rw [this]; rfl
      have t2 : ¬ 0 < sn := by omega
      clear z
      go_wp2
      go_meet
      case rel => exact ⟨_, _, _, by rw [← HD.out, e]; exact C0⟩
    · have t1 : decide (0 < sn) = true := by simp; omega
      obtain ⟨p1, hp1⟩ : ∃ p1, (if sc = 1 then so else Option.map (fun x => x.add 1) so) = p1 := ⟨_, rfl⟩
      have hp1' : (if sc = 1 then so else Option.map (fun x : Addr => ({ block := x.block, off := x.off + 1 } : Addr)) so) = p1 := hp1
      have hsle := hs.le
      have hsmx := hs.max
      have bs1 : (1 : Int) ≤ (sn : Int) := by omega
      have bs2 : (sn : Int) ≤ (sc : Int) := by omega
      have bs3 : 1 ≤ sn := by omega
      have bs4 : sn ≤ sc := by omega
      have C1 := C0.drew
      have HA := (⟨C1.all.1, C1.all.2.1⟩ : _ ∧ _)
      obtain ⟨y1, y2⟩ := (h.below C1.bel (Nat.le_refl _)).subQ hs hp1 bs3 (Nat.le_refl _)
      rw [show (sh.drop 1).take (sn - 1) = sh.drop 1 from List.take_of_length_le (by rw [List.length_drop, hl]; exact Nat.le_refl _)] at y1
      clear z
      go_wp2
      refine wp_region_R (fun V => V.cell? ⟨w.heap.size + 1 + 1 + 1, 0, none⟩ = some (.slice (some ⟨w.heap.size + 1 + 1, 0, none⟩) 1 1) ∧ V.cell? ⟨w.heap.size, 0, none⟩ = some (.slice so sn sc)) (fun j => decide (j < 7)) (by kernel_rfl) ?_
      refine wpAnyR_take (i := 0) (v := .pointer (some ⟨w.heap.size + 1 + 1 + 1, 0, none⟩)) rfl (by kernel_rfl) (by kernel_rfl) (by kernel_rfl) (by kernel_rfl) (fun _ _ _ h => h) (Or.inl ⟨by rfl, fun V hV => ?_⟩) ?_ ?_
      · obtain ⟨g0, g1⟩ := hV
        go_simp
      · exact HA
      conv => arg 9; simp [Act.put]
      refine wpAnyR_take (i := 2) (v := .pointer (some ⟨w.heap.size, 0, none⟩)) rfl (by kernel_rfl) (by kernel_rfl) (by kernel_rfl) (by kernel_rfl) (fun _ _ _ h => h) (Or.inl ⟨by rfl, fun V hV => ?_⟩) ?_ ?_
      · obtain ⟨g0, g1⟩ := hV
        go_simp
      · exact HA
      conv => arg 9; simp [Act.put]
      refine wpAnyR_take (i := 1) (v := .slice (some ⟨w.heap.size + 1 + 1, 0, none⟩) 1 1) rfl (by kernel_rfl) (by kernel_rfl) (by kernel_rfl) (by kernel_rfl) (fun _ _ _ h => h) (Or.inl ⟨by rfl, fun V hV => ?_⟩) ?_ ?_
      · obtain ⟨g0, g1⟩ := hV
        go_simp
      · exact HA
      conv => arg 9; simp [Act.put]
      refine wpAnyR_take (i := 3) (v := .slice so sn sc) rfl (by kernel_rfl) (by kernel_rfl) (by kernel_rfl) (by kernel_rfl) (fun _ _ _ h => h) (Or.inl ⟨by rfl, fun V hV => ?_⟩) ?_ ?_
      · obtain ⟨g0, g1⟩ := hV
        go_simp
      · exact HA
      conv => arg 9; simp [Act.put]
      refine wpAnyR_take (i := 4) (v := .slice p1 (sn - 1) (sc - 1)) rfl (by kernel_rfl) (by kernel_rfl) (by kernel_rfl) (by kernel_rfl) (fun _ _ _ h => h) (Or.inl ⟨by rfl, fun V hV => ?_⟩) ?_ ?_
      · obtain ⟨g0, g1⟩ := hV
        go_simp
      · exact HA
      conv => arg 9; simp [Act.put]
      refine wpAnyR_one (i := 5) (by kernel_rfl) rfl (fun K hK => ?_)
      refine step_joinW tyIQ rfl (.tmp 18) (.tmp 21) rfl w.heap.size (1 + (sn - 1)) _ _ _ _ _ _ [(m : Int)] (sh.drop 1) rfl rfl rfl C1.f1 y1 y2 (by omega) C1.bel.size ?_
      intro co c3 V3 F3 G3 _
      have C3 := C1.grow F3 G3
      rw [show 1 + (sn - 1) = sn by omega] at C3
      have o3 : V3.heap[w.heap.size + 1 + 1 + 1]? = some (.cells #[.slice (some ⟨w.heap.size + 1 + 1, 0, none⟩) 1 1, .slice none 0 0] 30 (0, 0)) := (G3.block _ (Array.getElem?_eq_some_iff.1 C1.out).1 (fun e => by obtain ⟨off, e1⟩ := C1.f1.obk e.symm; exact C1.f1.nebox C1.out ty_ne1 _ off e1 rfl)).trans C1.out
      obtain ⟨r0, r1, r2, r3⟩ := box2 o3
      have a3 : V3.cell? ⟨w.heap.size, 0, none⟩ = some (.slice so sn sc) := (box2 ((G3.block _ (Array.getElem?_eq_some_iff.1 C1.box).1 (fun e => by obtain ⟨off, e1⟩ := C1.f1.obk e.symm; exact C1.f1.nebox C1.box ty_ne1 _ off e1 rfl)).trans C1.box)).1
      refine hK _ _ ⟨fun _ => ⟨r0, a3⟩, ?_⟩
      clear hK
      (try (conv => arg 9; simp [Act.put]))
      refine wpAnyR_one (i := 6) (by kernel_rfl) rfl (fun K hK => ?_)
      go_simp
      refine hK _ _ ⟨fun _ => ⟨r0, a3⟩, ?_⟩
      clear hK
      (try (conv => arg 9; simp [Act.put]))
      refine wpAnyR_one (i := 7) (by kernel_rfl) rfl (fun K hK => ?_)
      go_simp
      refine hK _ _ ⟨fun h => absurd h (by decide), ?_⟩
      clear hK
      (try (conv => arg 9; simp [Act.put]))
      refine wpAnyR_done (by kernel_rfl) ?_ _
      go_wp2
      go_meet
      case rel => exact ⟨co, _, c3, by rw [← HD.out]; exact C3⟩
  case rest =>
    obtain ⟨o1, n1, c1, C⟩ := hcut
    obtain ⟨x0, x1, _, _⟩ := box2 C.box
    have hit2 := hit _ C.bel
    have hol := (Array.getElem?_eq_some_iff.1 C.out).1
    clear hit C0
    go_wp2_with (first
      | (go_at_call 71; (with_reducible refine hit2.mono ?_); rintro e w2 ⟨gg, rfl, lg, lb, CQ⟩))
    have Z0 : Cz w w2 gg N xs o1 n1 c1 sh1 none 0 0 [] := ⟨C.bel.trans (lb.mono C.bel.size), (lb.block _ (by omega)).trans C.res, (lb.block _ hol).trans C.out, C.f1.below lb (Nat.le_refl _), Ft.nil _ _ _, CQ, by omega⟩
    clear hit2 x0 x1 C lb CQ
    go_loopw [28] (fun i V => ∃ (k : Nat) (o2 : Option Addr) (n2 c2 : Nat), k ≤ m ∧ i = .int .i64 (k : Nat) ∧ n2 ≤ k * 4096 ∧ Cz w V gg N xs o1 n1 c1 sh1 o2 n2 c2 (chA xs ps k)) (fun i _ => m - (intOf i).toNat)
    case atStart => exact ⟨0, none, 0, 0, Nat.zero_le _, rfl, Nat.zero_le _, by simpa [chA] using Z0⟩
    case round =>
      obtain ⟨k, o2, n2, c2, hk, rfl, hn2, Z⟩ := hrel
      clear Z0
      by_cases hlt : k < m
      · have t1 : decide ((k : Int) < (m : Int)) = true := by simp; omega
        have bk : (k : Int) < (m : Int) := by omega
        have wk := wrY (z := (k : Int) + 1) (by omega) (by omega)
        obtain ⟨b, off, rfl, hb, hc⟩ := (hp.below Z.bel (Nat.le_refl _)).cells (by omega)
        have cc := hc k hlt
        have hpk := HIN.out k (by rw [HPL.out]; exact hlt)
        have hsu := chA_succ (xs := xs) (ps := ps) (k := k) (by rw [HPL.out]; exact hlt)
        obtain ⟨j, hj⟩ : ∃ j : Nat, nth ps k = (j : Int) := ⟨(nth ps k).toNat, by omega⟩
        rw [hj] at cc hpk hsu
        rw [Int.toNat_natCast] at hsu
        have Z1 := Z.drew
        obtain ⟨gb, goff, ge, hgl, hgc⟩ := Z1.itm.as.cells (by omega)
        cases ge
        obtain ⟨so', sn', sc', uo, tn, tc, a1, a2, a3, a4, a5, a6⟩ := hgc j (by omega)
        rw [Nat.zero_add] at a1 a2
        have htn : tn ≤ 4096 := by rw [← a5.len]; exact HXL.out j
        have bj : (j : Int) < (N : Int) := by omega
        have HA : wr.drew.cell? ⟨w.heap.size + 1 + 1 + 1, 1, none⟩ = some (.slice o2 n2 c2) ∧ wr.drew.cell? ⟨gg, j * 2 + 1, none⟩ = some (.slice uo tn tc) := ⟨(box2 Z1.out).2.1, a2⟩
        have HS : Hid (chA xs ps (k + 1) = chA xs ps k ++ (xs j).2) := hsu
        clear hc hgc a1 hj hsu
        go_wp2
        refine wp_region_R (fun V => V.cell? ⟨w.heap.size + 1 + 1 + 1, 1, none⟩ = some (.slice o2 n2 c2) ∧ V.cell? ⟨gg, j * 2 + 1, none⟩ = some (.slice uo tn tc)) (fun j => decide (j < 9)) (by kernel_rfl) ?_
        refine wpAnyR_take (i := 0) (v := .pointer (some ⟨w.heap.size + 1 + 1 + 1, 1, none⟩)) rfl (by kernel_rfl) (by kernel_rfl) (by kernel_rfl) (by kernel_rfl) (fun _ _ _ h => h) (Or.inl ⟨by rfl, fun V hV => ?_⟩) ?_ ?_
        · obtain ⟨g0, g1⟩ := hV
          go_simp
        · exact HA
        conv => arg 9; simp [Act.put]
        refine wpAnyR_take (i := 2) (v := .slice (some ⟨gg, 0, none⟩) N N) rfl (by kernel_rfl) (by kernel_rfl) (by kernel_rfl) (by kernel_rfl) (fun _ _ _ h => h) (Or.inl ⟨by rfl, fun V hV => ?_⟩) ?_ ?_
        · obtain ⟨g0, g1⟩ := hV
          go_simp
        · exact HA
        conv => arg 9; simp [Act.put]
        refine wpAnyR_take (i := 3) (v := .int .i64 (j : Nat)) rfl (by kernel_rfl) (by kernel_rfl) (by kernel_rfl) (by kernel_rfl) (fun _ _ _ h => h) (Or.inl ⟨by rfl, fun V hV => ?_⟩) ?_ ?_
        · obtain ⟨g0, g1⟩ := hV
          go_simp
        · exact HA
        conv => arg 9; simp [Act.put]
        refine wpAnyR_take (i := 4) (v := .pointer (some ⟨gg, j * 2, none⟩)) rfl (by kernel_rfl) (by kernel_rfl) (by kernel_rfl) (by kernel_rfl) (fun _ _ _ h => h) (Or.inl ⟨by rfl, fun V hV => ?_⟩) ?_ ?_
        · obtain ⟨g0, g1⟩ := hV
          go_simp
        · exact HA
        conv => arg 9; simp [Act.put]
        refine wpAnyR_take (i := 5) (v := .pointer (some ⟨gg, j * 2 + 1, none⟩)) rfl (by kernel_rfl) (by kernel_rfl) (by kernel_rfl) (by kernel_rfl) (fun _ _ _ h => h) (Or.inl ⟨by rfl, fun V hV => ?_⟩) ?_ ?_
        · obtain ⟨g0, g1⟩ := hV
          go_simp
        · exact HA
        conv => arg 9; simp [Act.put]
        refine wpAnyR_take (i := 1) (v := .slice o2 n2 c2) rfl (by kernel_rfl) (by kernel_rfl) (by kernel_rfl) (by kernel_rfl) (fun _ _ _ h => h) (Or.inl ⟨by rfl, fun V hV => ?_⟩) ?_ ?_
        · obtain ⟨g0, g1⟩ := hV
          go_simp
        · exact HA
        conv => arg 9; simp [Act.put]
        refine wpAnyR_take (i := 6) (v := .slice uo tn tc) rfl (by kernel_rfl) (by kernel_rfl) (by kernel_rfl) (by kernel_rfl) (fun _ _ _ h => h) (Or.inl ⟨by rfl, fun V hV => ?_⟩) ?_ ?_
        · obtain ⟨g0, g1⟩ := hV
          go_simp
        · exact HA
        conv => arg 9; simp [Act.put]
        refine wpAnyR_one (i := 7) (by kernel_rfl) rfl (fun K hK => ?_)
        refine step_joinW tyL rfl (.tmp 33) (.tmp 38) rfl w.heap.size (n2 + tn) _ _ _ _ _ _ (chA xs ps k) (xs j).2 rfl rfl rfl Z1.f2 a5 a6 (by omega) Z1.bel.size ?_
        intro co c3 V3 F3 G3 _
        have Z3 := Z1.grow F3 G3
        have o3 : V3.heap[w.heap.size + 1 + 1 + 1]? = _ := (G3.block _ (Array.getElem?_eq_some_iff.1 Z1.out).1 (fun e => by obtain ⟨off, e1⟩ := Z1.f2.obk e.symm; exact Z1.f2.nebox Z1.out ty_ne2 _ off e1 rfl)).trans Z1.out
        obtain ⟨r0, r1, r2, r3⟩ := box2 o3
        obtain ⟨cur, i1, i2, i3⟩ := Z1.itm.row
        have a3' : V3.cell? ⟨gg, j * 2 + 1, none⟩ = some (.slice uo tn tc) := by
          have i1' := (G3.block gg (Array.getElem?_eq_some_iff.1 i1).1 (fun e => by obtain ⟨off, e1⟩ := Z1.f2.obk e.symm; exact Z1.f2.nebox i1 ty_ne2 _ off e1 rfl)).trans i1
          rw [cell_of_row V3 gg _ _ _ (0, 0) i1', ← cell_of_row _ gg _ _ _ (0, 0) i1]
          exact a2
        refine hK _ _ ⟨fun _ => ⟨r1, a3'⟩, ?_⟩
        clear hK
        (try (conv => arg 9; simp [Act.put]))
        refine wpAnyR_one (i := 8) (by kernel_rfl) rfl (fun K hK => ?_)
        go_simp
        refine hK _ _ ⟨fun _ => ⟨r1, a3'⟩, ?_⟩
        clear hK
        (try (conv => arg 9; simp [Act.put]))
        refine wpAnyR_one (i := 9) (by kernel_rfl) rfl (fun K hK => ?_)
        go_simp
        refine hK _ _ ⟨fun h => absurd h (by decide), ?_⟩
        clear hK
        (try (conv => arg 9; simp [Act.put]))
        refine wpAnyR_done (by kernel_rfl) ?_ _
        go_wp2
        go_roundw
        case rel => exact ⟨k + 1, co, n2 + tn, c3, by omega, by go_num, by omega, by rw [HS.out]; exact Z3⟩
        case measure => simp [intOf]; omega
      · obtain rfl : k = m := by omega
        have t1 : decide ((k : Int) < (k : Int)) = false := by simp
        obtain ⟨y0, y1, _, _⟩ := box2 Z.out
        obtain ⟨r0, r1, r2, r3⟩ := box2 Z.res
        go_wp2
        (try simp only [Exit.inBlock, Exit.then])
        refine bodyPost_ret (v := .agg #[.slice o1 n1 c1, .slice o2 n2 c2]) (by simp [results, Tryz.results65]; go_simp) rfl ?_
        have ks := set2 wr (w.heap.size + 1) 0 1 (.slice o1 n1 c1) (.slice o2 n2 c2)
        exact ⟨o1, n1, c1, o2, n2, c2, rfl, Z.f1.keep1 ks (Z.f1.nebox Z.res ty_ne1), Z.f2.keep1 ks (Z.f2.nebox Z.res ty_ne2), below_set2 _ _ _ _ Z.bel (by omega) (Nat.le_refl _)⟩
end Go.Proofs.YtmepcenbaohcoaaGreat
