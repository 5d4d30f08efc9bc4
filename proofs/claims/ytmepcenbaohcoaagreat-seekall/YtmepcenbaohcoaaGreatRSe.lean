
/- The document's answers for package seek: the order of items. -/

import Derived.Test.YtmepcenbaohcoaaGreatRSd

namespace Go.Proofs.YtmepcenbaohcoaaGreat

open Go.RowKit

set_option linter.unusedVariables false

/-- One place more, put where it belongs. -/
theorem pls_put {c : Int → Int → Int} {k p : Nat} {ps ys : List Int} (hc : Cmp3 (k + 1) c) (h : Pls c k ps) (ha : p ≤ k) (hl : ys.length = k + 1) (h1 : ∀ j, j < p → nth ys j = nth ps j) (h2 : nth ys p = (k : Int)) (h3 : ∀ j, p < j → j ≤ k → nth ys j = nth ps (j - 1)) (lo : p = 0 ∨ c (nth ps (p - 1)) k ≤ 0) (hi : ∀ j, p ≤ j → j < k → c k (nth ps j) < 0) : Pls c (k + 1) ys := by
  have hin : ∀ j, j < k → 0 ≤ nth ps j ∧ nth ps j < k := fun j hj => h.inn j (by rw [h.len]; exact hj)
  have hb : ∀ j, j < k → 0 ≤ nth ps j ∧ nth ps j < ((k + 1 : Nat) : Int) := fun j hj => by have := hin j hj; omega
  refine ⟨hl, fun j hj => ?_, fun i j _ hij hj => ?_⟩
  · rw [hl] at hj
    rcases Nat.lt_trichotomy j p with x | x | x
    · rw [h1 j x]; exact hb j (by omega)
    · rw [x, h2]; omega
    · rw [h3 j x (by omega)]; exact hb (j - 1) (by omega)
  · rcases Nat.lt_trichotomy j p with x | x | x
    · rw [h1 i (by omega), h1 j x]; exact h.so i j (Nat.zero_le _) hij (by omega)
    · rw [x, h2, h1 i (by omega)]
      have hp : c (nth ps (p - 1)) k ≤ 0 := lo.resolve_left (by omega)
      have b1 := hin (p - 1) (by omega)
      have l1 : lx c (nth ps (p - 1)) k := by
        rcases Int.lt_or_eq_of_le hp with q | q
        · exact .inl q
        · exact .inr ⟨q, b1.2⟩
      by_cases e : i = p - 1
      · rw [e]; exact l1
      · exact lx_trans hc (hb i (by omega)) (hb (p - 1) (by omega)) ⟨by omega, by omega⟩ (h.so i (p - 1) (Nat.zero_le _) (by omega) (by omega)) l1
    · rw [h3 j x (by omega)]
      rcases Nat.lt_trichotomy i p with y | y | y
      · rw [h1 i y]; exact h.so i (j - 1) (Nat.zero_le _) (by omega) (by omega)
      · rw [y, h2]; exact .inl (hi (j - 1) (by omega) (by omega))
      · rw [h3 i y (by omega)]; exact h.so (i - 1) (j - 1) (Nat.zero_le _) (by omega) (by omega)
theorem nth_app {l m : List Int} {i : Nat} (h : i < l.length) : nth (l ++ m) i = nth l i := by simp [nth, List.getElem?_append_left h]
theorem ft_cells {W : World} {B : Nat} {o : Option Addr} {n cap : Nat} {zs : List Int} (h : Ft 3 W B o n cap zs) (hn : 0 < n) : ∃ g, o = some ⟨g, 0, none⟩ ∧ B ≤ g ∧ g < W.heap.size ∧ (∀ j, W.frozen? ⟨g, j, none⟩ = false) ∧ ∀ j, j < n → W.cell? ⟨g, j, none⟩ = some (.int .i64 (nth zs j)) := by
  obtain ⟨g, c, cur, h1, h2, h3, h4⟩ := h.own.2.resolve_left (fun x => by have := x.2; omega)
  obtain ⟨b, off, e, hb, hc⟩ := h.rd.cells hn
  have eo : o = some ⟨g, 0, none⟩ := by cases h1; rfl
  rw [eo] at e
  cases e
  refine ⟨g, eo, h2, hb, fun j => frozen_of_row W g j _ _ h3, fun j hj => ?_⟩
  have := hc j hj
  rwa [Nat.zero_add] at this
set_option maxHeartbeats 8000000 in
set_option maxRecDepth 20000 in
theorem refOrder7 (lo : Option Addr) (n lc : Nat) (xs : Nat → List Int × List Int) (way : Int) (c : Int → Int → Int) (w : World) (hc : ∀ N, Cmp3 N c) (hw : ∀ p q : Nat, IntKind.i64.wrap (way * cmpA (xs p).1 (xs p).2 (xs q).1 (xs q).2) = c (p : Int) (q : Int)) (h : AsQ w lo n xs) (hn : n ≤ 4096) :
    Calls Tryz.prog 30 #[.slice lo n lc, .int .i64 way] w fun e w' => ∃ o cc ps, e = .returned (.slice o n cc) ∧ Pls c n ps ∧ Ft 3 w' w.heap.size o n cc ps ∧ Below w.heap.size w w' := by
  have HA : Hid (∀ V, Below w.heap.size w V → AsQ V lo n xs) := fun V k => h.below k (Nat.le_refl _)
  have HW : Hid (∀ p q : Nat, IntKind.i64.wrap (way * cmpA (xs p).1 (xs p).2 (xs q).1 (xs q).2) = c (p : Int) (q : Int)) := hw
  have HC : Hid (∀ N, Cmp3 N c) := hc
  clear h hw hc
  go_enter Tryz.func30, Tryz.ntmps30
  go_wp2
  go_loopw [5, 6] (fun l i V => ∃ (k : Nat) (o : Option Addr) (cc : Nat) (ps : List Int), k ≤ n ∧ l = .slice o k cc ∧ i = .int .i64 (k : Nat) ∧ Hid (Pls c k ps) ∧ Ft 3 V w.heap.size o k cc ps ∧ Below w.heap.size w V) (fun _ i _ => n - (intOf i).toNat)
  case atStart => exact ⟨0, none, 0, [], Nat.zero_le _, rfl, rfl, ⟨rfl, fun k hk => absurd hk (by simp), fun i j _ hij hj => by omega⟩, Ft.nil _ _ _, Below.refl _ _⟩
  case round =>
    obtain ⟨k, o, cc, ps, hk, rfl, rfl, HP, F, BV⟩ := hrel
    by_cases hlt : k < n
    · have t1 : decide ((k : Int) < (n : Int)) = true := by simp; omega
      have t2 : (k : Int) < (n : Int) := by omega
      have A := HA.out wr BV
      obtain ⟨U, hU⟩ : ∃ U, U = wr := ⟨_, rfl⟩
      have FU : Ft 3 U w.heap.size o k cc ps := hU ▸ F
      have AU : AsQ U lo n xs := hU ▸ A
      have BU : Below w.heap.size w U := hU ▸ BV
      have kU : Below U.heap.size U wr := hU ▸ Below.refl _ _
      clear F A BV hU
      go_wp2
      go_loopw [7] (fun a V => ∃ m : Nat, m ≤ k ∧ a = .int .i64 (m : Nat) ∧ Hid (∀ j, m ≤ j → j < k → c k (nth ps j) < 0) ∧ Below U.heap.size U V) (fun a _ => (intOf a).toNat)
      case atStart => exact ⟨k, Nat.le_refl _, rfl, fun j h1 h2 => by omega, kU⟩
      case round =>
        clear kU
        obtain ⟨m, hm, rfl, HI, kV⟩ := hrel
        obtain ⟨b, off, rfl, hb, hcs⟩ := AU.cells (by omega)
        rcases m with _ | am
        · have t3 : decide ((0 : Int) < 0) = false := by decide
          go_wp2
          (try rw [show ((0 : Nat) : Int) = 0 from rfl])
          refine wp_region_R (fun V => True) (fun _ => true) (by kernel_rfl) ?_
          refine wpAnyR_take (i := 0) (v := .int .i64 0) rfl (by kernel_rfl) (by kernel_rfl) (by kernel_rfl) (by kernel_rfl) (fun _ _ _ h => h) (Or.inl ⟨by rfl, fun V hV => ?_⟩) ?_ ?_
          · obtain _ := hV
            go_simp
          · exact trivial
          conv => arg 9; simp [Act.put]
          refine wpAnyR_take (i := 1) (v := .bool false) rfl (by kernel_rfl) (by kernel_rfl) (by kernel_rfl) (by kernel_rfl) (fun _ _ _ h => h) (Or.inl ⟨by rfl, fun V hV => ?_⟩) ?_ ?_
          · obtain _ := hV
            go_simp
          · exact trivial
          conv => arg 9; simp [Act.put]
          refine wpAnyR_take (i := 2) (v := .bool false) rfl (by kernel_rfl) (by kernel_rfl) (by kernel_rfl) (by kernel_rfl) (fun _ _ _ h => h) (Or.inl ⟨by rfl, fun V hV => ?_⟩) ?_ ?_
          · obtain _ := hV
            go_simp
          · exact trivial
          conv => arg 9; simp [Act.put]
          refine wpAnyR_take (i := 3) (v := undef) rfl (by kernel_rfl) (by kernel_rfl) (by kernel_rfl) (by kernel_rfl) (fun _ _ _ h => h) (Or.inr ⟨by rfl, rfl⟩) ?_ ?_
          · exact trivial
          conv => arg 9; simp [Act.put]
          refine wpAnyR_take (i := 4) (v := undef) rfl (by kernel_rfl) (by kernel_rfl) (by kernel_rfl) (by kernel_rfl) (fun _ _ _ h => h) (Or.inr ⟨by rfl, rfl⟩) ?_ ?_
          · exact trivial
          conv => arg 9; simp [Act.put]
          refine wpAnyR_take (i := 5) (v := undef) rfl (by kernel_rfl) (by kernel_rfl) (by kernel_rfl) (by kernel_rfl) (fun _ _ _ h => h) (Or.inr ⟨by rfl, rfl⟩) ?_ ?_
          · exact trivial
          conv => arg 9; simp [Act.put]
          refine wpAnyR_take (i := 6) (v := undef) rfl (by kernel_rfl) (by kernel_rfl) (by kernel_rfl) (by kernel_rfl) (fun _ _ _ h => h) (Or.inr ⟨by rfl, rfl⟩) ?_ ?_
          · exact trivial
          conv => arg 9; simp [Act.put]
          refine wpAnyR_take (i := 7) (v := undef) rfl (by kernel_rfl) (by kernel_rfl) (by kernel_rfl) (by kernel_rfl) (fun _ _ _ h => h) (Or.inr ⟨by rfl, rfl⟩) ?_ ?_
          · exact trivial
          conv => arg 9; simp [Act.put]
          refine wpAnyR_take (i := 8) (v := undef) rfl (by kernel_rfl) (by kernel_rfl) (by kernel_rfl) (by kernel_rfl) (fun _ _ _ h => h) (Or.inr ⟨by rfl, rfl⟩) ?_ ?_
          · exact trivial
          conv => arg 9; simp [Act.put]
          refine wpAnyR_take (i := 9) (v := undef) rfl (by kernel_rfl) (by kernel_rfl) (by kernel_rfl) (by kernel_rfl) (fun _ _ _ h => h) (Or.inr ⟨by rfl, rfl⟩) ?_ ?_
          · exact trivial
          conv => arg 9; simp [Act.put]
          refine wpAnyR_take (i := 10) (v := undef) rfl (by kernel_rfl) (by kernel_rfl) (by kernel_rfl) (by kernel_rfl) (fun _ _ _ h => h) (Or.inr ⟨by rfl, rfl⟩) ?_ ?_
          · exact trivial
          conv => arg 9; simp [Act.put]
          refine wpAnyR_take (i := 11) (v := undef) rfl (by kernel_rfl) (by kernel_rfl) (by kernel_rfl) (by kernel_rfl) (fun _ _ _ h => h) (Or.inr ⟨by rfl, rfl⟩) ?_ ?_
          · exact trivial
          conv => arg 9; simp [Act.put]
          refine wpAnyR_take (i := 12) (v := undef) rfl (by kernel_rfl) (by kernel_rfl) (by kernel_rfl) (by kernel_rfl) (fun _ _ _ h => h) (Or.inr ⟨by rfl, rfl⟩) ?_ ?_
          · exact trivial
          conv => arg 9; simp [Act.put]
          refine wpAnyR_take (i := 13) (v := undef) rfl (by kernel_rfl) (by kernel_rfl) (by kernel_rfl) (by kernel_rfl) (fun _ _ _ h => h) (Or.inr ⟨by rfl, rfl⟩) ?_ ?_
          · exact trivial
          conv => arg 9; simp [Act.put]
          refine wpAnyR_take (i := 14) (v := undef) rfl (by kernel_rfl) (by kernel_rfl) (by kernel_rfl) (by kernel_rfl) (fun _ _ _ h => h) (Or.inr ⟨by rfl, rfl⟩) ?_ ?_
          · exact trivial
          conv => arg 9; simp [Act.put]
          refine wpAnyR_take (i := 15) (v := undef) rfl (by kernel_rfl) (by kernel_rfl) (by kernel_rfl) (by kernel_rfl) (fun _ _ _ h => h) (Or.inr ⟨by rfl, rfl⟩) ?_ ?_
          · exact trivial
          conv => arg 9; simp [Act.put]
          refine wpAnyR_take (i := 16) (v := undef) rfl (by kernel_rfl) (by kernel_rfl) (by kernel_rfl) (by kernel_rfl) (fun _ _ _ h => h) (Or.inr ⟨by rfl, rfl⟩) ?_ ?_
          · exact trivial
          conv => arg 9; simp [Act.put]
          refine wpAnyR_take (i := 17) (v := undef) rfl (by kernel_rfl) (by kernel_rfl) (by kernel_rfl) (by kernel_rfl) (fun _ _ _ h => h) (Or.inr ⟨by rfl, rfl⟩) ?_ ?_
          · exact trivial
          conv => arg 9; simp [Act.put]
          refine wpAnyR_take (i := 18) (v := undef) rfl (by kernel_rfl) (by kernel_rfl) (by kernel_rfl) (by kernel_rfl) (fun _ _ _ h => h) (Or.inr ⟨by rfl, rfl⟩) ?_ ?_
          · exact trivial
          conv => arg 9; simp [Act.put]
          refine wpAnyR_take (i := 19) (v := .bool false) rfl (by kernel_rfl) (by kernel_rfl) (by kernel_rfl) (by kernel_rfl) (fun _ _ _ h => h) (Or.inl ⟨by rfl, fun V hV => ?_⟩) ?_ ?_
          · obtain _ := hV
            go_simp
          · exact trivial
          conv => arg 9; simp [Act.put]
          refine wpAnyR_done (by kernel_rfl) ?_ _
          have kX : Below U.heap.size U wr.drew := kV.drew
          have FX := FU.below kX (Nat.le_refl _)
          have BX : Below w.heap.size w wr.drew := BU.trans (kX.mono BU.size)
          have kb := box_below wr.drew (.cells #[.int .i64 0] 3)
          have F2 := FX.below kb (Nat.le_refl _)
          have L2 := ft_new 3 wr.drew [0] (by simp) (num1 (by omega) (by omega))
          have hB2 : w.heap.size ≤ (wr.drew.alloc (.cells #[.int .i64 0] 3)).heap.size := Nat.le_trans BX.size kb.size
          have wk : IntKind.i64.wrap ((k : Int) + 1 - 1) = (k : Int) := by rw [show (k : Int) + 1 - 1 = (k : Int) by omega]; exact wrapIn _ (by omega)
          have wk2 : IntKind.i64.wrap (k : Int) = (k : Int) := wrapIn _ (by omega)
          go_wp2_with (first
            | (at_builtin; refine wpList_joinT tyI rfl _ _ rfl w.heap.size _ (some ⟨wr.drew.heap.size, 0, none⟩) k cc 1 1 ps [0] rfl rfl F2 L2.rd L2.sl (by omega) hB2 ?_; intro co3 cc3 W7 f7 b7))
          have B7 : Below w.heap.size w W7 := BX.trans ((kb.mono BX.size).trans b7)
          have Y0 : Hid ((ps ++ [0]).length = k + 1 ∧ ∀ i, i ≤ k → nth (ps ++ [0]) i = if i ≤ k then nth (ps ++ [0]) i else nth (ps ++ [0]) (i - 1)) := ⟨by have := HP.out.len; simp; omega, fun i hi => by rw [if_pos hi]⟩
          clear kX FX BX kb F2 L2 hB2 b7
          obtain ⟨g3, rfl, hg3, _, _, _⟩ := ft_cells f7 (by omega)
          go_loopw [8] (fun q V => ∃ (j : Nat) (ys : List Int), 0 ≤ j ∧ j ≤ k ∧ q = .int .i64 (j : Nat) ∧ Hid (ys.length = k + 1 ∧ ∀ i, i ≤ k → nth ys i = if i ≤ j then nth (ps ++ [0]) i else nth (ps ++ [0]) (i - 1)) ∧ Ft 3 V w.heap.size (some ⟨g3, 0, none⟩) (k + 1) cc3 ys ∧ Below w.heap.size w V) (fun q _ => (intOf q).toNat)
          case atStart => exact ⟨k, ps ++ [0], by omega, Nat.le_refl _, rfl, Y0, f7, B7⟩
          case round =>
            clear Y0 f7 B7
            obtain ⟨j, ys, hpj, hjk, rfl, HY, f8, B8⟩ := hrel
            obtain ⟨_, e3, _, hg4, hgf8, hgc8⟩ := ft_cells f8 (by omega)
            cases e3
            have HB8 : Hid (Below w.heap.size w wr) := B8
            have HF8 : Hid (Ft 3 wr w.heap.size (some ⟨g3, 0, none⟩) (k + 1) cc3 ys) := f8
            clear B8 f8
            by_cases hjp : 0 < j
            · obtain ⟨jm, rfl⟩ : ∃ jm, j = jm + 1 := ⟨j - 1, by omega⟩
              have c8 := hgc8 jm (by omega)
              have d8 := hgc8 (jm + 1) (by omega)
              have z8 := hgf8 (jm + 1)
              have nb := HF8.out.rd.num jm (by omega)
              have HV8 : Hid (nth ys jm = nth (ps ++ [0]) jm) := by show _ = _; rw [HY.out.2 jm (by omega), if_pos (by omega)]
              have HV9 : Hid (nth ys jm = nth ys jm) := rfl
              obtain ⟨v8, hv8⟩ : ∃ v, nth ys jm = v := ⟨_, rfl⟩
              rw [hv8] at c8 nb HV8
              have tj : decide ((0 : Int) < (jm : Int) + 1) = true := decide_eq_true (by omega)
              have wj : IntKind.i64.wrap ((jm : Int) + 1 - 1) = (jm : Int) := by rw [show (jm : Int) + 1 - 1 = (jm : Int) by omega]; exact wrapIn _ (by omega)
              have wj2 : IntKind.i64.wrap (jm : Int) = (jm : Int) := wrapIn _ (by omega)
              have bj : (jm : Int) < (k : Int) + 1 := by omega
              have bj2 : (jm : Int) + 1 < (k : Int) + 1 := by omega
              clear hgc8 hgf8 HV9
              generalize nth ys (jm + 1) = u8 at *
              go_wp2
              go_roundw
              case measure => simp [intOf] <;> omega
              case rel =>
                refine ⟨jm, ys.set (jm + 1) v8, by omega, by omega, by first | rfl | go_num, ⟨by rw [List.length_set]; exact HY.out.1, fun i hi => ?_⟩, HF8.out.setY (jm + 1) (by omega) v8 nb.1 nb.2, HB8.out.setCell (p := ⟨g3, jm + 1, none⟩) hg3 _⟩
                rw [nth_setY (by rw [HY.out.1]; omega)]
                by_cases ei : i = jm + 1
                · rw [if_pos ei, if_neg (by omega), HV8.out, ei]; rfl
                · rw [if_neg ei, HY.out.2 i hi]
                  by_cases el : i ≤ jm
                  · rw [if_pos el, if_pos (by omega)]
                  · rw [if_neg el, if_neg (by omega)]
            · obtain rfl : j = 0 := by omega
              have c8 := hgc8 0 (by omega)
              have z8 := hgf8 0
              have tj : decide ((0 : Int) < (0 : Int)) = false := by simp
              have bj : ((0 : Int) : Int) < (k : Int) + 1 := by omega
              have tz : (0 : Int) ≤ (0 : Int) := by omega
              clear hgc8 hgf8
              generalize nth ys 0 = u8 at *
              go_wp2
              go_roundw
              case measure => simp [intOf] <;> omega
              case rel =>
                refine ⟨k + 1, some ⟨g3, 0, none⟩, cc3, ys.set 0 (k : Int), by omega, rfl, by first | rfl | go_num, ?_, HF8.out.setY 0 (by omega) (k : Int) (by omega) (by omega), HB8.out.setCell (p := ⟨g3, 0, none⟩) hg3 _⟩
                have hl := HP.out.len
                refine pls_put (p := 0) (HC.out _) HP.out (by omega) (by rw [List.length_set]; exact HY.out.1) (fun i hi => ?_) ?_ (fun i h1 h2 => ?_) (.inl rfl) HI.out
                · rw [nth_setY (by rw [HY.out.1]; omega), if_neg (by omega), HY.out.2 i (by omega), if_pos (by omega), nth_app (by omega)]
                · rw [nth_setY (by rw [HY.out.1]; omega), if_pos rfl]
                · rw [nth_setY (by rw [HY.out.1]; omega), if_neg (by omega), HY.out.2 i h2, if_neg (by omega), nth_app (by omega)]
        · obtain ⟨g, rfl, hg1, hg2, hgf, hgc⟩ := ft_cells FU (by omega)
          obtain ⟨p, hp⟩ : ∃ p : Nat, nth ps am = (p : Int) := ⟨(nth ps am).toNat, by have := HP.out.inn am (by rw [HP.out.len]; omega); omega⟩
          have hpn : p < n := by have := HP.out.inn am (by rw [HP.out.len]; omega); omega
          obtain ⟨eo, en, ec, fo, fn, fc, q0, q1, r0, _, r1, _⟩ := hcs k hlt
          obtain ⟨eo', en', ec', fo', fn', fc', q0', q1', r0', _, r1', _⟩ := hcs p hpn
          have d0 := hgc am (by omega)
          rw [hp] at d0
          have AL0 : ∀ V, Below U.heap.size U V → V.cell? ⟨b, off + k * 2, none⟩ = some (.slice eo en ec) ∧ V.cell? ⟨b, off + k * 2 + 1, none⟩ = some (.slice fo fn fc) ∧ V.cell? ⟨g, am, none⟩ = some (.int .i64 (p : Int)) ∧ V.cell? ⟨b, off + p * 2, none⟩ = some (.slice eo' en' ec') ∧ V.cell? ⟨b, off + p * 2 + 1, none⟩ = some (.slice fo' fn' fc') := fun V kk => ⟨(kk.cell (p := ⟨b, off + k * 2, none⟩) hb).trans q0, (kk.cell (p := ⟨b, off + k * 2 + 1, none⟩) hb).trans q1, (kk.cell (p := ⟨g, am, none⟩) hg2).trans d0, (kk.cell (p := ⟨b, off + p * 2, none⟩) hb).trans q0', (kk.cell (p := ⟨b, off + p * 2 + 1, none⟩) hb).trans q1'⟩
          have HS0 := AL0 wr.drew kV.drew
          have AL : ∀ V, Below wr.drew.heap.size wr.drew V → V.cell? ⟨b, off + k * 2, none⟩ = some (.slice eo en ec) ∧ V.cell? ⟨b, off + k * 2 + 1, none⟩ = some (.slice fo fn fc) ∧ V.cell? ⟨g, am, none⟩ = some (.int .i64 (p : Int)) ∧ V.cell? ⟨b, off + p * 2, none⟩ = some (.slice eo' en' ec') ∧ V.cell? ⟨b, off + p * 2 + 1, none⟩ = some (.slice fo' fn' fc') := fun V kk => AL0 V (kV.drew.trans (kk.mono kV.drew.size))
          have kd := kV.drew
          have cC := refCompare_any eo fo eo' fo' en ec fn fc en' ec' fn' fc' (xs k).1 (xs k).2 (xs p).1 (xs p).2 wr.drew (r0.below kd (Nat.le_refl _)) (r1.below kd (Nat.le_refl _)) (r0'.below kd (Nat.le_refl _)) (r1'.below kd (Nat.le_refl _))
          have wv := HW.out k p
          obtain ⟨cv, hcv⟩ : ∃ cv, c (k : Int) (p : Int) = cv := ⟨_, rfl⟩
          rw [hcv] at wv
          have HV : Hid (c (k : Int) (p : Int) = cv) := hcv
          have HPP : Hid (nth ps am = (p : Int)) := hp
          have wa : IntKind.i64.wrap ((am : Int) + 1 - 1) = (am : Int) := by rw [show (am : Int) + 1 - 1 = (am : Int) by omega]; exact wrapIn _ (by omega)
          have wb : IntKind.i64.wrap (am : Int) = (am : Int) := wrapIn _ (by omega)
          have ta : decide ((0 : Int) < (am : Int) + 1) = true := decide_eq_true (by omega)
          have tb : (am : Int) < (k : Int) := by omega
          have tc : (p : Int) < (n : Int) := by omega
          clear hcv hp d0 q0 q1 q0' q1' r0 r1 r0' r1' hgc hcs AL0 hgf
          generalize cmpA (xs k).1 (xs k).2 (xs p).1 (xs p).2 = cm at *
          by_cases hn' : cv < 0
          · have td : decide (cv < 0) = true := by simpa using hn'
            go_wp2
            (try rw [show (((am + 1 : Nat) : Nat) : Int) = (am : Int) + 1 by omega])
            refine wp_region_R (fun V => V.cell? ⟨b, off + k * 2, none⟩ = some (.slice eo en ec) ∧ V.cell? ⟨b, off + k * 2 + 1, none⟩ = some (.slice fo fn fc) ∧ V.cell? ⟨g, am, none⟩ = some (.int .i64 (p : Int)) ∧ V.cell? ⟨b, off + p * 2, none⟩ = some (.slice eo' en' ec') ∧ V.cell? ⟨b, off + p * 2 + 1, none⟩ = some (.slice fo' fn' fc')) (fun _ => true) (by kernel_rfl) ?_
            refine wpAnyR_take (i := 0) (v := .int .i64 ((am : Int) + 1)) rfl (by kernel_rfl) (by kernel_rfl) (by kernel_rfl) (by kernel_rfl) (fun _ _ _ h => h) (Or.inl ⟨by rfl, fun V hV => ?_⟩) ?_ ?_
            · obtain ⟨g0, g1, g2, g3, g4⟩ := hV
              go_simp
            · exact HS0
            conv => arg 9; simp [Act.put]
            refine wpAnyR_take (i := 1) (v := .bool true) rfl (by kernel_rfl) (by kernel_rfl) (by kernel_rfl) (by kernel_rfl) (fun _ _ _ h => h) (Or.inl ⟨by rfl, fun V hV => ?_⟩) ?_ ?_
            · obtain ⟨g0, g1, g2, g3, g4⟩ := hV
              go_simp
            · exact HS0
            conv => arg 9; simp [Act.put]
            refine wpAnyR_take (i := 2) (v := .bool true) rfl (by kernel_rfl) (by kernel_rfl) (by kernel_rfl) (by kernel_rfl) (fun _ _ _ h => h) (Or.inl ⟨by rfl, fun V hV => ?_⟩) ?_ ?_
            · obtain ⟨g0, g1, g2, g3, g4⟩ := hV
              go_simp
            · exact HS0
            conv => arg 9; simp [Act.put]
            refine wpAnyR_take (i := 3) (v := .int .i64 way) rfl (by kernel_rfl) (by kernel_rfl) (by kernel_rfl) (by kernel_rfl) (fun _ _ _ h => h) (Or.inl ⟨by rfl, fun V hV => ?_⟩) ?_ ?_
            · obtain ⟨g0, g1, g2, g3, g4⟩ := hV
              go_simp
            · exact HS0
            conv => arg 9; simp [Act.put]
            refine wpAnyR_take (i := 4) (v := .slice (some ⟨b, off, none⟩) n lc) rfl (by kernel_rfl) (by kernel_rfl) (by kernel_rfl) (by kernel_rfl) (fun _ _ _ h => h) (Or.inl ⟨by rfl, fun V hV => ?_⟩) ?_ ?_
            · obtain ⟨g0, g1, g2, g3, g4⟩ := hV
              go_simp
            · exact HS0
            conv => arg 9; simp [Act.put]
            refine wpAnyR_take (i := 5) (v := .int .i64 (k : Int)) rfl (by kernel_rfl) (by kernel_rfl) (by kernel_rfl) (by kernel_rfl) (fun _ _ _ h => h) (Or.inl ⟨by rfl, fun V hV => ?_⟩) ?_ ?_
            · obtain ⟨g0, g1, g2, g3, g4⟩ := hV
              go_simp
            · exact HS0
            conv => arg 9; simp [Act.put]
            refine wpAnyR_take (i := 6) (v := .pointer (some ⟨b, off + k * 2, none⟩)) rfl (by kernel_rfl) (by kernel_rfl) (by kernel_rfl) (by kernel_rfl) (fun _ _ _ h => h) (Or.inl ⟨by rfl, fun V hV => ?_⟩) ?_ ?_
            · obtain ⟨g0, g1, g2, g3, g4⟩ := hV
              go_simp
            · exact HS0
            conv => arg 9; simp [Act.put]
            refine wpAnyR_take (i := 7) (v := .agg #[.slice eo en ec, .slice fo fn fc]) rfl (by kernel_rfl) (by kernel_rfl) (by kernel_rfl) (by kernel_rfl) (fun _ _ _ h => h) (Or.inl ⟨by rfl, fun V hV => ?_⟩) ?_ ?_
            · obtain ⟨g0, g1, g2, g3, g4⟩ := hV
              go_simp
            · exact HS0
            conv => arg 9; simp [Act.put]
            refine wpAnyR_take (i := 8) (v := .slice (some ⟨b, off, none⟩) n lc) rfl (by kernel_rfl) (by kernel_rfl) (by kernel_rfl) (by kernel_rfl) (fun _ _ _ h => h) (Or.inl ⟨by rfl, fun V hV => ?_⟩) ?_ ?_
            · obtain ⟨g0, g1, g2, g3, g4⟩ := hV
              go_simp
            · exact HS0
            conv => arg 9; simp [Act.put]
            refine wpAnyR_take (i := 9) (v := .slice (some ⟨g, 0, none⟩) k cc) rfl (by kernel_rfl) (by kernel_rfl) (by kernel_rfl) (by kernel_rfl) (fun _ _ _ h => h) (Or.inl ⟨by rfl, fun V hV => ?_⟩) ?_ ?_
            · obtain ⟨g0, g1, g2, g3, g4⟩ := hV
              go_simp
            · exact HS0
            conv => arg 9; simp [Act.put]
            refine wpAnyR_take (i := 10) (v := .int .i64 ((am : Int) + 1)) rfl (by kernel_rfl) (by kernel_rfl) (by kernel_rfl) (by kernel_rfl) (fun _ _ _ h => h) (Or.inl ⟨by rfl, fun V hV => ?_⟩) ?_ ?_
            · obtain ⟨g0, g1, g2, g3, g4⟩ := hV
              go_simp
            · exact HS0
            conv => arg 9; simp [Act.put]
            refine wpAnyR_take (i := 11) (v := .int .i64 (am : Int)) rfl (by kernel_rfl) (by kernel_rfl) (by kernel_rfl) (by kernel_rfl) (fun _ _ _ h => h) (Or.inl ⟨by rfl, fun V hV => ?_⟩) ?_ ?_
            · obtain ⟨g0, g1, g2, g3, g4⟩ := hV
              go_simp
            · exact HS0
            conv => arg 9; simp [Act.put]
            refine wpAnyR_take (i := 12) (v := .pointer (some ⟨g, am, none⟩)) rfl (by kernel_rfl) (by kernel_rfl) (by kernel_rfl) (by kernel_rfl) (fun _ _ _ h => h) (Or.inl ⟨by rfl, fun V hV => ?_⟩) ?_ ?_
            · obtain ⟨g0, g1, g2, g3, g4⟩ := hV
              go_simp
            · exact HS0
            conv => arg 9; simp [Act.put]
            refine wpAnyR_take (i := 13) (v := .int .i64 (p : Int)) rfl (by kernel_rfl) (by kernel_rfl) (by kernel_rfl) (by kernel_rfl) (fun _ _ _ h => h) (Or.inl ⟨by rfl, fun V hV => ?_⟩) ?_ ?_
            · obtain ⟨g0, g1, g2, g3, g4⟩ := hV
              go_simp
            · exact HS0
            conv => arg 9; simp [Act.put]
            refine wpAnyR_take (i := 14) (v := .pointer (some ⟨b, off + p * 2, none⟩)) rfl (by kernel_rfl) (by kernel_rfl) (by kernel_rfl) (by kernel_rfl) (fun _ _ _ h => h) (Or.inl ⟨by rfl, fun V hV => ?_⟩) ?_ ?_
            · obtain ⟨g0, g1, g2, g3, g4⟩ := hV
              go_simp
            · exact HS0
            conv => arg 9; simp [Act.put]
            refine wpAnyR_take (i := 15) (v := .agg #[.slice eo' en' ec', .slice fo' fn' fc']) rfl (by kernel_rfl) (by kernel_rfl) (by kernel_rfl) (by kernel_rfl) (fun _ _ _ h => h) (Or.inl ⟨by rfl, fun V hV => ?_⟩) ?_ ?_
            · obtain ⟨g0, g1, g2, g3, g4⟩ := hV
              go_simp
            · exact HS0
            conv => arg 9; simp [Act.put]
            refine wpAnyR_one (i := 16) (by kernel_rfl) rfl (fun K hK => ?_)
            go_simp
            go_wp2_with (go_at_call 54; (with_reducible refine cC.mono ?_); rintro e V5 ⟨rfl, k5⟩; have HS5 := AL V5 k5; refine hK _ _ ⟨fun _ => HS5, ?_⟩; clear hK)
            conv => arg 9; simp [Act.put]
            refine wpAnyR_take (i := 17) (v := .int .i64 cv) rfl (by kernel_rfl) (by kernel_rfl) (by kernel_rfl) (by kernel_rfl) (fun _ _ _ h => h) (Or.inl ⟨by rfl, fun V hV => ?_⟩) ?_ ?_
            · obtain ⟨g0, g1, g2, g3, g4⟩ := hV
              go_simp
            · exact HS5
            conv => arg 9; simp [Act.put]
            refine wpAnyR_take (i := 18) (v := .bool true) rfl (by kernel_rfl) (by kernel_rfl) (by kernel_rfl) (by kernel_rfl) (fun _ _ _ h => h) (Or.inl ⟨by rfl, fun V hV => ?_⟩) ?_ ?_
            · obtain ⟨g0, g1, g2, g3, g4⟩ := hV
              go_simp
            · exact HS5
            conv => arg 9; simp [Act.put]
            refine wpAnyR_take (i := 19) (v := .bool true) rfl (by kernel_rfl) (by kernel_rfl) (by kernel_rfl) (by kernel_rfl) (fun _ _ _ h => h) (Or.inl ⟨by rfl, fun V hV => ?_⟩) ?_ ?_
            · obtain ⟨g0, g1, g2, g3, g4⟩ := hV
              go_simp
            · exact HS5
            conv => arg 9; simp [Act.put]
            refine wpAnyR_done (by kernel_rfl) ?_ _
            go_wp2
            go_roundw
            case measure => simp [intOf] <;> omega
            case rel =>
              refine ⟨am, by omega, by first | rfl | go_num, fun j h1 h2 => ?_, kV.drew.trans (k5.mono kV.drew.size)⟩
              by_cases hj : j = am
              · rw [hj, HPP.out, HV.out]; exact hn'
              · exact HI.out j (by omega) h2
          · have td : decide (cv < 0) = false := by simpa using hn'
            go_wp2
            (try rw [show (((am + 1 : Nat) : Nat) : Int) = (am : Int) + 1 by omega])
            refine wp_region_R (fun V => V.cell? ⟨b, off + k * 2, none⟩ = some (.slice eo en ec) ∧ V.cell? ⟨b, off + k * 2 + 1, none⟩ = some (.slice fo fn fc) ∧ V.cell? ⟨g, am, none⟩ = some (.int .i64 (p : Int)) ∧ V.cell? ⟨b, off + p * 2, none⟩ = some (.slice eo' en' ec') ∧ V.cell? ⟨b, off + p * 2 + 1, none⟩ = some (.slice fo' fn' fc')) (fun _ => true) (by kernel_rfl) ?_
            refine wpAnyR_take (i := 0) (v := .int .i64 ((am : Int) + 1)) rfl (by kernel_rfl) (by kernel_rfl) (by kernel_rfl) (by kernel_rfl) (fun _ _ _ h => h) (Or.inl ⟨by rfl, fun V hV => ?_⟩) ?_ ?_
            · obtain ⟨g0, g1, g2, g3, g4⟩ := hV
              go_simp
            · exact HS0
            conv => arg 9; simp [Act.put]
            refine wpAnyR_take (i := 1) (v := .bool true) rfl (by kernel_rfl) (by kernel_rfl) (by kernel_rfl) (by kernel_rfl) (fun _ _ _ h => h) (Or.inl ⟨by rfl, fun V hV => ?_⟩) ?_ ?_
            · obtain ⟨g0, g1, g2, g3, g4⟩ := hV
              go_simp
            · exact HS0
            conv => arg 9; simp [Act.put]
            refine wpAnyR_take (i := 2) (v := .bool true) rfl (by kernel_rfl) (by kernel_rfl) (by kernel_rfl) (by kernel_rfl) (fun _ _ _ h => h) (Or.inl ⟨by rfl, fun V hV => ?_⟩) ?_ ?_
            · obtain ⟨g0, g1, g2, g3, g4⟩ := hV
              go_simp
            · exact HS0
            conv => arg 9; simp [Act.put]
            refine wpAnyR_take (i := 3) (v := .int .i64 way) rfl (by kernel_rfl) (by kernel_rfl) (by kernel_rfl) (by kernel_rfl) (fun _ _ _ h => h) (Or.inl ⟨by rfl, fun V hV => ?_⟩) ?_ ?_
            · obtain ⟨g0, g1, g2, g3, g4⟩ := hV
              go_simp
            · exact HS0
            conv => arg 9; simp [Act.put]
            refine wpAnyR_take (i := 4) (v := .slice (some ⟨b, off, none⟩) n lc) rfl (by kernel_rfl) (by kernel_rfl) (by kernel_rfl) (by kernel_rfl) (fun _ _ _ h => h) (Or.inl ⟨by rfl, fun V hV => ?_⟩) ?_ ?_
            · obtain ⟨g0, g1, g2, g3, g4⟩ := hV
              go_simp
            · exact HS0
            conv => arg 9; simp [Act.put]
            refine wpAnyR_take (i := 5) (v := .int .i64 (k : Int)) rfl (by kernel_rfl) (by kernel_rfl) (by kernel_rfl) (by kernel_rfl) (fun _ _ _ h => h) (Or.inl ⟨by rfl, fun V hV => ?_⟩) ?_ ?_
            · obtain ⟨g0, g1, g2, g3, g4⟩ := hV
              go_simp
            · exact HS0
            conv => arg 9; simp [Act.put]
            refine wpAnyR_take (i := 6) (v := .pointer (some ⟨b, off + k * 2, none⟩)) rfl (by kernel_rfl) (by kernel_rfl) (by kernel_rfl) (by kernel_rfl) (fun _ _ _ h => h) (Or.inl ⟨by rfl, fun V hV => ?_⟩) ?_ ?_
            · obtain ⟨g0, g1, g2, g3, g4⟩ := hV
              go_simp
            · exact HS0
            conv => arg 9; simp [Act.put]
            refine wpAnyR_take (i := 7) (v := .agg #[.slice eo en ec, .slice fo fn fc]) rfl (by kernel_rfl) (by kernel_rfl) (by kernel_rfl) (by kernel_rfl) (fun _ _ _ h => h) (Or.inl ⟨by rfl, fun V hV => ?_⟩) ?_ ?_
            · obtain ⟨g0, g1, g2, g3, g4⟩ := hV
              go_simp
            · exact HS0
            conv => arg 9; simp [Act.put]
            refine wpAnyR_take (i := 8) (v := .slice (some ⟨b, off, none⟩) n lc) rfl (by kernel_rfl) (by kernel_rfl) (by kernel_rfl) (by kernel_rfl) (fun _ _ _ h => h) (Or.inl ⟨by rfl, fun V hV => ?_⟩) ?_ ?_
            · obtain ⟨g0, g1, g2, g3, g4⟩ := hV
              go_simp
            · exact HS0
            conv => arg 9; simp [Act.put]
            refine wpAnyR_take (i := 9) (v := .slice (some ⟨g, 0, none⟩) k cc) rfl (by kernel_rfl) (by kernel_rfl) (by kernel_rfl) (by kernel_rfl) (fun _ _ _ h => h) (Or.inl ⟨by rfl, fun V hV => ?_⟩) ?_ ?_
            · obtain ⟨g0, g1, g2, g3, g4⟩ := hV
              go_simp
            · exact HS0
            conv => arg 9; simp [Act.put]
            refine wpAnyR_take (i := 10) (v := .int .i64 ((am : Int) + 1)) rfl (by kernel_rfl) (by kernel_rfl) (by kernel_rfl) (by kernel_rfl) (fun _ _ _ h => h) (Or.inl ⟨by rfl, fun V hV => ?_⟩) ?_ ?_
            · obtain ⟨g0, g1, g2, g3, g4⟩ := hV
              go_simp
            · exact HS0
            conv => arg 9; simp [Act.put]
            refine wpAnyR_take (i := 11) (v := .int .i64 (am : Int)) rfl (by kernel_rfl) (by kernel_rfl) (by kernel_rfl) (by kernel_rfl) (fun _ _ _ h => h) (Or.inl ⟨by rfl, fun V hV => ?_⟩) ?_ ?_
            · obtain ⟨g0, g1, g2, g3, g4⟩ := hV
              go_simp
            · exact HS0
            conv => arg 9; simp [Act.put]
            refine wpAnyR_take (i := 12) (v := .pointer (some ⟨g, am, none⟩)) rfl (by kernel_rfl) (by kernel_rfl) (by kernel_rfl) (by kernel_rfl) (fun _ _ _ h => h) (Or.inl ⟨by rfl, fun V hV => ?_⟩) ?_ ?_
            · obtain ⟨g0, g1, g2, g3, g4⟩ := hV
              go_simp
            · exact HS0
            conv => arg 9; simp [Act.put]
            refine wpAnyR_take (i := 13) (v := .int .i64 (p : Int)) rfl (by kernel_rfl) (by kernel_rfl) (by kernel_rfl) (by kernel_rfl) (fun _ _ _ h => h) (Or.inl ⟨by rfl, fun V hV => ?_⟩) ?_ ?_
            · obtain ⟨g0, g1, g2, g3, g4⟩ := hV
              go_simp
            · exact HS0
            conv => arg 9; simp [Act.put]
            refine wpAnyR_take (i := 14) (v := .pointer (some ⟨b, off + p * 2, none⟩)) rfl (by kernel_rfl) (by kernel_rfl) (by kernel_rfl) (by kernel_rfl) (fun _ _ _ h => h) (Or.inl ⟨by rfl, fun V hV => ?_⟩) ?_ ?_
            · obtain ⟨g0, g1, g2, g3, g4⟩ := hV
              go_simp
            · exact HS0
            conv => arg 9; simp [Act.put]
            refine wpAnyR_take (i := 15) (v := .agg #[.slice eo' en' ec', .slice fo' fn' fc']) rfl (by kernel_rfl) (by kernel_rfl) (by kernel_rfl) (by kernel_rfl) (fun _ _ _ h => h) (Or.inl ⟨by rfl, fun V hV => ?_⟩) ?_ ?_
            · obtain ⟨g0, g1, g2, g3, g4⟩ := hV
              go_simp
            · exact HS0
            conv => arg 9; simp [Act.put]
            refine wpAnyR_one (i := 16) (by kernel_rfl) rfl (fun K hK => ?_)
            go_simp
            go_wp2_with (go_at_call 54; (with_reducible refine cC.mono ?_); rintro e V5 ⟨rfl, k5⟩; have HS5 := AL V5 k5; refine hK _ _ ⟨fun _ => HS5, ?_⟩; clear hK)
            conv => arg 9; simp [Act.put]
            refine wpAnyR_take (i := 17) (v := .int .i64 cv) rfl (by kernel_rfl) (by kernel_rfl) (by kernel_rfl) (by kernel_rfl) (fun _ _ _ h => h) (Or.inl ⟨by rfl, fun V hV => ?_⟩) ?_ ?_
            · obtain ⟨g0, g1, g2, g3, g4⟩ := hV
              go_simp
            · exact HS5
            conv => arg 9; simp [Act.put]
            refine wpAnyR_take (i := 18) (v := .bool false) rfl (by kernel_rfl) (by kernel_rfl) (by kernel_rfl) (by kernel_rfl) (fun _ _ _ h => h) (Or.inl ⟨by rfl, fun V hV => ?_⟩) ?_ ?_
            · obtain ⟨g0, g1, g2, g3, g4⟩ := hV
              go_simp
            · exact HS5
            conv => arg 9; simp [Act.put]
            refine wpAnyR_take (i := 19) (v := .bool false) rfl (by kernel_rfl) (by kernel_rfl) (by kernel_rfl) (by kernel_rfl) (fun _ _ _ h => h) (Or.inl ⟨by rfl, fun V hV => ?_⟩) ?_ ?_
            · obtain ⟨g0, g1, g2, g3, g4⟩ := hV
              go_simp
            · exact HS5
            conv => arg 9; simp [Act.put]
            refine wpAnyR_done (by kernel_rfl) ?_ _
            have hge : c (nth ps am) (k : Int) ≤ 0 := by
              have an := (HC.out n).anti (k : Int) (p : Int) (by omega) (by omega) (by omega) (by omega)
              rw [HPP.out, an, HV.out]
              omega
            have HGe : Hid (c (nth ps am) (k : Int) ≤ 0) := hge
            clear hge
            have kX : Below U.heap.size U V5 := kV.drew.trans (k5.mono kV.drew.size)
            have FX := FU.below kX (Nat.le_refl _)
            have BX : Below w.heap.size w V5 := BU.trans (kX.mono BU.size)
            have kb := box_below V5 (.cells #[.int .i64 0] 3)
            have F2 := FX.below kb (Nat.le_refl _)
            have L2 := ft_new 3 V5 [0] (by simp) (num1 (by omega) (by omega))
            have hB2 : w.heap.size ≤ (V5.alloc (.cells #[.int .i64 0] 3)).heap.size := Nat.le_trans BX.size kb.size
            have wk : IntKind.i64.wrap ((k : Int) + 1 - 1) = (k : Int) := by rw [show (k : Int) + 1 - 1 = (k : Int) by omega]; exact wrapIn _ (by omega)
            have wk2 : IntKind.i64.wrap (k : Int) = (k : Int) := wrapIn _ (by omega)
            go_wp2_with (first
              | (at_builtin; refine wpList_joinT tyI rfl _ _ rfl w.heap.size _ (some ⟨V5.heap.size, 0, none⟩) k cc 1 1 ps [0] rfl rfl F2 L2.rd L2.sl (by omega) hB2 ?_; intro co3 cc3 W7 f7 b7))
            have B7 : Below w.heap.size w W7 := BX.trans ((kb.mono BX.size).trans b7)
            have Y0 : Hid ((ps ++ [0]).length = k + 1 ∧ ∀ i, i ≤ k → nth (ps ++ [0]) i = if i ≤ k then nth (ps ++ [0]) i else nth (ps ++ [0]) (i - 1)) := ⟨by have := HP.out.len; simp; omega, fun i hi => by rw [if_pos hi]⟩
            clear kX FX BX kb F2 L2 hB2 b7
            obtain ⟨g3, rfl, hg3, _, _, _⟩ := ft_cells f7 (by omega)
            go_loopw [8] (fun q V => ∃ (j : Nat) (ys : List Int), (am + 1) ≤ j ∧ j ≤ k ∧ q = .int .i64 (j : Nat) ∧ Hid (ys.length = k + 1 ∧ ∀ i, i ≤ k → nth ys i = if i ≤ j then nth (ps ++ [0]) i else nth (ps ++ [0]) (i - 1)) ∧ Ft 3 V w.heap.size (some ⟨g3, 0, none⟩) (k + 1) cc3 ys ∧ Below w.heap.size w V) (fun q _ => (intOf q).toNat)
            case atStart => exact ⟨k, ps ++ [0], by omega, Nat.le_refl _, rfl, Y0, f7, B7⟩
            case round =>
              clear Y0 f7 B7
              obtain ⟨j, ys, hpj, hjk, rfl, HY, f8, B8⟩ := hrel
              obtain ⟨_, e3, _, hg4, hgf8, hgc8⟩ := ft_cells f8 (by omega)
              cases e3
              have HB8 : Hid (Below w.heap.size w wr) := B8
              have HF8 : Hid (Ft 3 wr w.heap.size (some ⟨g3, 0, none⟩) (k + 1) cc3 ys) := f8
              clear B8 f8
              by_cases hjp : (am + 1) < j
              · obtain ⟨jm, rfl⟩ : ∃ jm, j = jm + 1 := ⟨j - 1, by omega⟩
                have c8 := hgc8 jm (by omega)
                have d8 := hgc8 (jm + 1) (by omega)
                have z8 := hgf8 (jm + 1)
                have nb := HF8.out.rd.num jm (by omega)
                have HV8 : Hid (nth ys jm = nth (ps ++ [0]) jm) := by show _ = _; rw [HY.out.2 jm (by omega), if_pos (by omega)]
                have HV9 : Hid (nth ys jm = nth ys jm) := rfl
                obtain ⟨v8, hv8⟩ : ∃ v, nth ys jm = v := ⟨_, rfl⟩
                rw [hv8] at c8 nb HV8
                have tj : decide (((am : Int) + 1) < (jm : Int) + 1) = true := decide_eq_true (by omega)
                have wj : IntKind.i64.wrap ((jm : Int) + 1 - 1) = (jm : Int) := by rw [show (jm : Int) + 1 - 1 = (jm : Int) by omega]; exact wrapIn _ (by omega)
                have wj2 : IntKind.i64.wrap (jm : Int) = (jm : Int) := wrapIn _ (by omega)
                have bj : (jm : Int) < (k : Int) + 1 := by omega
                have bj2 : (jm : Int) + 1 < (k : Int) + 1 := by omega
                clear hgc8 hgf8 HV9
                generalize nth ys (jm + 1) = u8 at *
                go_wp2
                go_roundw
                case measure => simp [intOf] <;> omega
                case rel =>
                  refine ⟨jm, ys.set (jm + 1) v8, by omega, by omega, by first | rfl | go_num, ⟨by rw [List.length_set]; exact HY.out.1, fun i hi => ?_⟩, HF8.out.setY (jm + 1) (by omega) v8 nb.1 nb.2, HB8.out.setCell (p := ⟨g3, jm + 1, none⟩) hg3 _⟩
                  rw [nth_setY (by rw [HY.out.1]; omega)]
                  by_cases ei : i = jm + 1
                  · rw [if_pos ei, if_neg (by omega), HV8.out, ei]; rfl
                  · rw [if_neg ei, HY.out.2 i hi]
                    by_cases el : i ≤ jm
                    · rw [if_pos el, if_pos (by omega)]
                    · rw [if_neg el, if_neg (by omega)]
              · obtain rfl : j = (am + 1) := by omega
                have c8 := hgc8 (am + 1) (by omega)
                have z8 := hgf8 (am + 1)
                have tj : decide (((am : Int) + 1) < ((am : Int) + 1)) = false := by simp
                have bj : (((am : Int) + 1) : Int) < (k : Int) + 1 := by omega
                have tz : (0 : Int) ≤ ((am : Int) + 1) := by omega
                clear hgc8 hgf8
                generalize nth ys (am + 1) = u8 at *
                go_wp2
                go_roundw
                case measure => simp [intOf] <;> omega
                case rel =>
                  refine ⟨k + 1, some ⟨g3, 0, none⟩, cc3, ys.set (am + 1) (k : Int), by omega, rfl, by first | rfl | go_num, ?_, HF8.out.setY (am + 1) (by omega) (k : Int) (by omega) (by omega), HB8.out.setCell (p := ⟨g3, (am + 1), none⟩) hg3 _⟩
                  have hl := HP.out.len
                  refine pls_put (p := (am + 1)) (HC.out _) HP.out (by omega) (by rw [List.length_set]; exact HY.out.1) (fun i hi => ?_) ?_ (fun i h1 h2 => ?_) (.inr HGe.out) HI.out
                  · rw [nth_setY (by rw [HY.out.1]; omega), if_neg (by omega), HY.out.2 i (by omega), if_pos (by omega), nth_app (by omega)]
                  · rw [nth_setY (by rw [HY.out.1]; omega), if_pos rfl]
                  · rw [nth_setY (by rw [HY.out.1]; omega), if_neg (by omega), HY.out.2 i h2, if_neg (by omega), nth_app (by omega)]
    · obtain rfl : k = n := by omega
      have t1 : decide ((k : Int) < (k : Int)) = false := by simp
      go_wp2
      go_ret
      exact ⟨_, _, ps, rfl, HP.out, F, BV⟩
end Go.Proofs.YtmepcenbaohcoaaGreat
