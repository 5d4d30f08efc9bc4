
/- The document's Put: a text more in a rising list. -/

import Derived.Test.YtiahilelcppfgaaGreatSA

import Derived.Test.YtiahilelcppfgaaGreatYTr

import Derived.Deep.CutBlock

import Derived.Sort.Walk0

import Derived.Deep.DeepCutAuto

namespace Go.Proofs.YtiahilelcppfgaaGreat

open Go.RowKit

set_option linter.unusedVariables false

/-- A cell of a row of its own written over. -/
theorem own_put {W : World} {B n c g i : Nat} {e : TypeId} {xs : List Value} (u : Value) (h : W.ownsRow B e 1 (.slice (some ⟨g, 0, none⟩) n c) n xs) (hi : i < n) :
    (W.setCell ⟨g, i, none⟩ u).ownsRow B e 1 (.slice (some ⟨g, 0, none⟩) n c) n (xs.set i u) ∧ (∃ v, W.cell? ⟨g, i, none⟩ = some v) ∧ W.frozen? ⟨g, i, none⟩ = false ∧ W.grownBy (W.setCell ⟨g, i, none⟩ u) (some g) := by
  obtain ⟨h1, h2⟩ := h
  rcases h2 with ⟨_, h0⟩ | ⟨g', cap, cur, e1, hB, hg, hnc, hm, hcs, ht⟩
  · omega
  · injection e1 with e1 e2 e3
    injection e1 with e1
    injection e1 with e1
    subst e1 e3
    refine ⟨⟨by rw [List.length_set]; exact h1, .inr ⟨g, c, cur.setIfInBounds i u, rfl, hB, heap_setCell_same _ _ _ _ _ _ hg, hnc, hm, by simp [hcs], ?_⟩⟩, ⟨cur[i]'(by omega), ?_⟩, frozen_of_row W g i cur _ hg, set1 _ _ _ _⟩
    · rw [← ht]
      apply List.ext_getElem?
      intro k
      simp only [Array.toList_setIfInBounds, List.getElem?_take, List.getElem?_set]
      by_cases hk : k < n * 1
      · simp only [hk, if_true, List.length_take, Array.length_toList]
        by_cases e : i = k
        · subst e; simp only [if_true]; rw [if_pos (by omega), if_pos (by omega)]
        · simp [e]
      · rw [if_neg hk, List.length_take, Array.length_toList]
        by_cases e : i = k
        · omega
        · rw [if_neg e, if_neg hk]
    · rw [cell_of_row W g i cur _ _ hg]
      exact Array.getElem?_eq_getElem (by omega)
/-- A cell of a row of its own. -/
theorem own_txt {W : World} {B n c : Nat} {o : Option Addr} {e : TypeId} {xs : List Value} (h : W.ownsRow B e 1 (.slice o n c) n xs) (h0 : 0 < n) : ∃ g, o = some ⟨g, 0, none⟩ ∧ B ≤ g ∧ g < W.heap.size ∧ ∀ i, i < n → W.cell? ⟨g, i, none⟩ = xs[i]? := by
  rcases h.2 with ⟨_, e0⟩ | ⟨g, cap, cur, e1, hB, hg, hnc, _, hcs, ht⟩
  · omega
  · injection e1 with e1 e2 e3
    subst e1 e3
    exact ⟨g, rfl, hB, (Array.getElem?_eq_some_iff.1 hg).1, fun i hi => by rw [cell_of_row W g i cur _ _ hg, ← ht, List.getElem?_take_of_lt (by omega), Array.getElem?_toList]⟩
theorem geq_str (x t : ByteArray) (W : World) : Sem.run Tryz.prog (binOp .geq 9 (.string x) (.string t)) W = .ok (.bool (!Op.bytesLess x.toList t.toList)) W := rfl
/-- The list with a text at a place. -/
def insL (l : List ByteArray) (i : Nat) (x : ByteArray) : List ByteArray := l.take i ++ x :: l.drop i
theorem insL_len (l : List ByteArray) (i : Nat) (x : ByteArray) : (insL l i x).length = l.length + 1 := by
  unfold insL
  rw [List.length_append, List.length_cons, List.length_take, List.length_drop]; omega
theorem insL_end (l : List ByteArray) (x : ByteArray) : insL l l.length x = l ++ [x] := by unfold insL; simp
theorem insL_set {l : List ByteArray} {i : Nat} (hi : i ≤ l.length) (x y : ByteArray) : (insL l i x).set i y = insL l i y := by
  unfold insL
  rw [List.set_append_right _ _ (by simp; omega)]
  simp [Nat.min_eq_left hi]
theorem insL_down {l : List ByteArray} {i : Nat} (hi : i < l.length) : insL l (i + 1) l[i] = insL l i l[i] := by
  unfold insL
  rw [List.take_succ_eq_append_getElem hi, List.append_assoc, List.drop_eq_getElem_cons hi]
  rfl
theorem insL_lo {l : List ByteArray} {i j : Nat} (hj : j < i) (hi : i ≤ l.length) (x : ByteArray) : (insL l i x)[j]? = l[j]? := by
  unfold insL
  rw [List.getElem?_append_left (by simp; omega), List.getElem?_take_of_lt hj]
/-- What Put makes of a list, from the place on where the greater ones begin. -/
structure Atp (l : List ByteArray) (t : ByteArray) (i : Nat) : Prop where
  le : i ≤ l.length
  hi : ∀ j (h : j < l.length), i ≤ j → ¬ l[j].toList < t.toList
theorem put_in {l : List ByteArray} {t : ByteArray} {i : Nat} (A : Atp l t i) (hl : ∀ h : i < l.length, (l[i].toList == t.toList) = false) (hp : ∀ j (h : j < l.length), j < i → l[j].toList < t.toList) (hs : (bys l).Pairwise (· < ·)) : (bys (insL l i t)).Pairwise (· < ·) ∧ ∀ b, b ∈ bys (insL l i t) ↔ b ∈ bys l ∨ b = t.data.toList := by
  have hb : bys (insL l i t) = (bys l).take i ++ t.data.toList :: (bys l).drop i := by simp [bys, insL, List.map_take, List.map_drop]
  have hlen : (bys l).length = l.length := by simp [bys]
  have hat : ∀ j (h : j < (bys l).length), (bys l)[j] = ByteArray.toList (l[j]'(by rw [hlen] at h; exact h)) := fun j h => by simp [bys, ByteArray.toList_eq]
  rw [hb, ← ByteArray.toList_eq]
  refine ⟨?_, fun b => ?_⟩
  · rw [List.pairwise_append, List.pairwise_cons]
    refine ⟨hs.sublist (List.take_sublist _ _), ⟨fun a ha => ?_, hs.sublist (List.drop_sublist _ _)⟩, fun a ha c hc => ?_⟩
    · obtain ⟨k, hk, e⟩ := List.getElem_of_mem ha
      rw [List.getElem_drop, hat] at e
      rw [List.length_drop] at hk
      subst e
      have h1 := A.hi (i + k) (by omega) (by omega)
      have h2 : t.toList ≠ (l[i + k]'(by omega)).toList := by
        intro e
        rcases Nat.eq_zero_or_pos k with h0 | h0
        · subst h0
          have := hl (by omega)
          simp only [Nat.add_zero] at e
          rw [e] at this; simp at this
        · have hlt := List.pairwise_iff_getElem.1 hs i (i + k) (by omega) (by omega) (by omega)
          rw [hat, hat, ← e] at hlt
          exact A.hi i (by omega) (Nat.le_refl _) hlt
      exact lt_of_le_ne (List.not_lt.1 h1) h2
    · obtain ⟨k, hk, e⟩ := List.getElem_of_mem ha
      rw [List.getElem_take, hat] at e
      rw [List.length_take] at hk
      subst e
      have h1 := hp k (by omega) (by omega)
      rcases List.mem_cons.1 hc with rfl | hc
      · exact h1
      · obtain ⟨m, hm, e⟩ := List.getElem_of_mem hc
        rw [List.getElem_drop, hat] at e
        rw [List.length_drop] at hm
        subst e
        have := List.pairwise_iff_getElem.1 hs k (i + m) (by omega) (by omega) (by omega)
        rwa [hat, hat] at this
  · rw [List.mem_append, List.mem_cons]
    constructor
    · rintro (h | h | h)
      · exact .inl (List.mem_of_mem_take h)
      · exact .inr h
      · exact .inl (List.mem_of_mem_drop h)
    · rintro (h | h)
      · rw [← List.take_append_drop i (bys l), List.mem_append] at h
        rcases h with h | h
        · exact .inl h
        · exact .inr (.inr h)
      · exact .inr (.inl h)
set_option linter.unusedSimpArgs false in
set_option maxRecDepth 100000 in
set_option maxHeartbeats 4000000 in
theorem put_any (l : List ByteArray) (t : ByteArray) (o : Option Addr) (c B : Nat) (w : World) (h : w.ownsRow B 9 1 (.slice o l.length c) l.length (l.map Value.string)) (hB : B ≤ w.heap.size) (hn : l.length ≤ 4500) :
    Calls Tryz.prog 52 #[.slice o l.length c, .string t] w fun e w' => ∃ (m : List ByteArray) (o' : Option Addr) (c' : Nat), e = .returned (.slice o' m.length c') ∧ w'.ownsRow B 9 1 (.slice o' m.length c') m.length (m.map Value.string) ∧ Below B w w' ∧ m.length ≤ l.length + 1 ∧ ((bys l).Pairwise (· < ·) → (bys m).Pairwise (· < ·) ∧ ∀ b, b ∈ bys m ↔ b ∈ bys l ∨ b = t.data.toList) := by
  have hc0 : Hid (0 < l.length → ∃ g, o = some ⟨g, 0, none⟩ ∧ B ≤ g ∧ g < w.heap.size ∧ ∀ i (h : i < l.length), w.cell? ⟨g, i, none⟩ = some (.string l[i])) := fun h0 => by
    obtain ⟨g, e, h1, h2, h3⟩ := own_txt h h0
    exact ⟨g, e, h1, h2, fun i hi => by rw [h3 i hi, List.getElem?_map, List.getElem?_eq_getElem hi]; rfl⟩
  have HOWN : Hid (w.ownsRow B 9 1 (.slice o l.length c) l.length (l.map Value.string)) := h
  obtain ⟨n, hn'⟩ : ∃ n, n = l.length := ⟨_, rfl⟩
  have HN : Hid (n = l.length) := hn'
  rw [← hn'] at hn ⊢
  clear hn' h
  go_enter Tryz.func52, Tryz.ntmps52
  go_upto_block 0 with fail
  go_cut [5] (fun a V => V = w ∧ ∃ i : Nat, i ≤ n ∧ a = .int .i64 (i : Nat) ∧ Hid (Atp l t i ∧ ∀ j (h : j < l.length), j + 1 = i → l[j].toList < t.toList))
  case first =>
    go_wp2_with fail
    go_loopw [5] (fun a V => V = w ∧ ∃ i : Nat, i ≤ n ∧ a = .int .i64 (i : Nat) ∧ Hid (Atp l t i)) (fun a _ => (intOf a).toNat)
    case atStart => exact ⟨rfl, n, Nat.le_refl _, rfl, ⟨by rw [HN.out]; exact Nat.le_refl _, fun j h hj => absurd h (by rw [← HN.out]; omega)⟩⟩
    case round =>
      obtain ⟨rfl, i, hi, rfl, HA⟩ := hrel
      match i, hi, HA with
      | 0, hi, HA =>
        have t3 : decide ((0 : Int) < (0 : Int)) = false := by simp
        go_wp2
        go_meet
        case rel => exact ⟨rfl, 0, Nat.zero_le _, rfl, HA.out, fun j h e => by omega⟩
      | p + 1, hi, HA =>
        have t3 : decide ((0 : Int) < ((p + 1 : Nat) : Int)) = true := by simp
        have t4 : decide ((0 : Int) < (p : Int) + 1) = true := by simp
        have wp1 : IntKind.i64.wrap ((p : Int) + 1 - 1) = (p : Int) := by rw [wrT (by omega) (by omega)]; omega
        have wp2 : IntKind.i64.wrap ((p : Int)) = (p : Int) := wrT (by omega) (by omega)
        have bp : (p : Int) < (n : Int) := by omega
        have hpl : p < l.length := by rw [← HN.out]; omega
        obtain ⟨g, rfl, hgB, hgw, hcell⟩ := hc0.out (by omega)
        have cp := hcell p hpl
        have HLP : Hid (Op.bytesLess (l[p]).toList t.toList = decide ((l[p]).toList < t.toList)) := bytesLess_eq _ _
        clear hcell
        obtain ⟨x, hx⟩ : ∃ x, x = l[p] := ⟨_, rfl⟩
        rw [← hx] at cp HLP
        have HX : Hid (x = l[p]) := hx
        clear hx
        cases hlt : Op.bytesLess x.toList t.toList
        · have hge : ∀ W, Sem.run Tryz.prog (binOp .geq 9 (.string x) (.string t)) W = .ok (.bool true) W := fun W => by rw [geq_str, hlt]; rfl
          go_wp2
          go_roundw
          case rel =>
            refine ⟨by first | trivial | rfl, p, by omega, by go_num, ⟨by rw [← HN.out]; omega, fun j h hj => ?_⟩⟩
            by_cases e : j = p
            · subst e
              have := HLP.out
              rw [hlt, HX.out] at this
              exact of_decide_eq_false this.symm
            · exact HA.out.hi j h (by omega)
          case measure => simp [intOf] <;> omega
        · have hge : ∀ W, Sem.run Tryz.prog (binOp .geq 9 (.string x) (.string t)) W = .ok (.bool false) W := fun W => by rw [geq_str, hlt]; rfl
          go_wp2
          go_meet
          case rel =>
            refine ⟨by first | trivial | rfl, p + 1, hi, by first | rfl | go_num, HA.out, fun j h e => ?_⟩
            obtain rfl : j = p := by omega
            have := HLP.out
            rw [hlt, HX.out] at this
            exact of_decide_eq_true this.symm
  case rest =>
    obtain ⟨hw, i, hi, rfl, HA⟩ := hcut
    have hw' := hw.symm
    clear hw
    subst hw'
    by_cases hin : i < n
    · have t3 : decide ((i : Int) < (n : Int)) = true := by simp; omega
      have bi : (i : Int) < (n : Int) := by omega
      have hil : i < l.length := by rw [← HN.out]; omega
      obtain ⟨g, e, hgB, hgw, hcell⟩ := hc0.out (by omega)
      have ci := hcell i hil
      clear hcell
      cases hxe : (l[i].toList == t.toList)
      · have HNE : Hid (∀ h : i < l.length, (l[i].toList == t.toList) = false) := fun _ => hxe
        have eo : Hid (o = some ⟨g, 0, none⟩) := e
        generalize l[i] = x at *
        subst e
        have HAL : Hid ((w.alloc (.cells #[.string ⟨#[]⟩] 9)).heap.size = w.heap.size + 1) := World.size_alloc w _
        have kb := box_below w (.cells #[.string ⟨#[]⟩] 9)
        obtain ⟨co, cc, w10, hrun, hown, gr10⟩ := run_joinS 47 B w.heap.size (some ⟨g, 0, none⟩) l.length c (l.map Value.string) ⟨#[]⟩ (own_kb' HOWN.out kb) (allocNew w (.cells #[.string ⟨#[]⟩] 9)) (by rw [← HN.out]; omega) (by rw [HAL.out]; omega)
        have BW : Below B w w10 := (kb.mono hB).grown gr10 (by rw [HAL.out]; omega) (fun q e => (own_atb HOWN.out q e).1)
        rw [← HN.out] at hrun
        have e0 : l.map Value.string ++ [Value.string ⟨#[]⟩] = (insL l n ⟨#[]⟩).map Value.string := by rw [HN.out, insL_end]; simp
        rw [e0, ← HN.out] at hown
        have wp3 : IntKind.i64.wrap ((n : Int) + 1 - 1) = (n : Int) := by rw [wrT (by omega) (by omega)]; omega
        have wp4 : IntKind.i64.wrap ((n : Int)) = (n : Int) := wrT (by omega) (by omega)
        clear kb gr10 e0
        go_upto_region 7 with (at_builtin; refine wpList_append_run rfl _ _ _ rfl _ (by exact hrun) ?_)
        clear hrun
        go_wp2
        go_loopw [6] (fun iv V => ∃ (k : Nat) (X : ByteArray), i ≤ k ∧ k ≤ n ∧ iv = .int .i64 (k : Nat) ∧ V.ownsRow B 9 1 (.slice co (n + 1) cc) (n + 1) ((insL l k X).map Value.string) ∧ Below B w V) (fun iv _ => (intOf iv).toNat)
        case atStart => exact ⟨n, ⟨#[]⟩, by omega, Nat.le_refl _, rfl, hown, BW⟩
        case round =>
          obtain ⟨k, X, hik, hkn, rfl, OW, BV⟩ := hrel
          clear hown BW
          obtain ⟨g', rfl, hgB', hgw', hcell'⟩ := own_txt OW (by omega)
          by_cases hlt2 : i < k
          · obtain ⟨p, rfl⟩ : ∃ p, k = p + 1 := ⟨k - 1, by omega⟩
            have u1 : decide ((i : Int) < (p : Int) + 1) = true := by simp; omega
            have u2 : decide ((i : Int) < ((p + 1 : Nat) : Int)) = true := by simp; omega
            have wq1 : IntKind.i64.wrap ((p : Int) + 1 - 1) = (p : Int) := by rw [wrT (by omega) (by omega)]; omega
            have wq2 : IntKind.i64.wrap ((p : Int)) = (p : Int) := wrT (by omega) (by omega)
            have bq : (p : Int) < (n : Int) + 1 := by omega
            have bq1 : (p : Int) + 1 < (n : Int) + 1 := by omega
            have hpl : p < l.length := by rw [← HN.out]; omega
            have cq := hcell' p (by omega)
            rw [List.getElem?_map, insL_lo (by omega) (by omega), List.getElem?_eq_getElem hpl] at cq
            have OP := own_put (Value.string l[p]) OW (show p + 1 < n + 1 by omega)
            obtain ⟨OW2, ⟨vq, cv⟩, fq, gq⟩ := OP
            have es : ((insL l (p + 1) X).map Value.string).set (p + 1) (Value.string l[p]) = (insL l p l[p]).map Value.string := by rw [← List.map_set, insL_set (by omega), insL_down hpl]
            rw [es] at OW2
            have HO2 : Hid (_) := OW2
            have BV2 := BV.grown gq (Nat.le_trans hB BV.size) (fun q e => by injection e with e; omega)
            clear hcell' OW OW2 es gq
            generalize l[p] = y at *
            have cq' : wr.cell? ⟨g', p, none⟩ = some (.string y) := cq
            clear cq
            go_wp2
            go_roundw
            case rel => exact ⟨p, y, by omega, by omega, by go_num, HO2.out, BV2⟩
            case measure => simp [intOf] <;> omega
          · obtain rfl : k = i := by omega
            have u1 : decide ((k : Int) < (k : Int)) = false := by simp
            have bq1 : (k : Int) < (n : Int) + 1 := by omega
            obtain ⟨OW2, ⟨vq, cv⟩, fq, gq⟩ := own_put (Value.string t) OW (show k < n + 1 by omega)
            rw [← List.map_set, insL_set (by rw [← HN.out]; omega)] at OW2
            have BV2 := BV.grown gq (Nat.le_trans hB BV.size) (fun q e => by injection e with e; omega)
            have HO2 : Hid (_) := OW2
            clear hcell' OW OW2 gq
            go_wp2
            go_ret
            have el : (insL l k t).length = n + 1 := by rw [insL_len, HN.out]
            exact ⟨insL l k t, some ⟨g', 0, none⟩, cc, by rw [el]; rfl, by rw [el]; exact HO2.out, BV2, by rw [el]; exact Nat.le_refl _, fun hs => put_in HA.out.1 HNE.out (fun j h hj => by
              have e1 : ∀ q (hq : q < l.length), q + 1 = k → l[q].toList < t.toList := HA.out.2
              obtain ⟨q, hq⟩ : ∃ q, k = q + 1 := ⟨k - 1, by omega⟩
              have hql : q < l.length := by rw [← HN.out]; omega
              have h1 := e1 q hql hq.symm
              by_cases e : j = q
              · subst e; exact h1
              · have h2 := List.pairwise_iff_getElem.1 hs j q (by simp [bys]; omega) (by simp [bys]; omega) (by omega)
                have h3 : l[j].toList < l[q].toList := by simpa [bys, ByteArray.toList_eq] using h2
                exact List.lt_trans h3 h1) hs⟩
      · have eo := e
        have HMEM : Hid (t.data.toList ∈ bys l) := by
          show _ ∈ _
          have h1 : l[i].toList = t.toList := by simpa using hxe
          rw [← ByteArray.toList_eq, ← h1, ByteArray.toList_eq]
          exact List.mem_map.2 ⟨_, List.getElem_mem hil, rfl⟩
        generalize l[i] = x at *
        subst e
        go_wp2
        go_ret
        exact ⟨l, some ⟨g, 0, none⟩, c, by rw [← HN.out]; rfl, HOWN.out, Below.refl _ _, by rw [HN.out]; exact Nat.le_succ _, fun hs => ⟨hs, fun b => ⟨fun h => .inl h, fun h => h.elim id (fun h => by rw [h]; exact HMEM.out)⟩⟩⟩
    · obtain rfl : n = i := by omega
      have t3 : decide ((n : Int) < (n : Int)) = false := by simp
      have HNE : Hid (∀ h : n < l.length, (l[n].toList == t.toList) = false) := fun h => by rw [← HN.out] at h; omega
      have HAL : Hid ((w.alloc (.cells #[.string ⟨#[]⟩] 9)).heap.size = w.heap.size + 1) := World.size_alloc w _
      have kb := box_below w (.cells #[.string ⟨#[]⟩] 9)
      obtain ⟨co, cc, w10, hrun, hown, gr10⟩ := run_joinS 47 B w.heap.size o l.length c (l.map Value.string) ⟨#[]⟩ (own_kb' HOWN.out kb) (allocNew w (.cells #[.string ⟨#[]⟩] 9)) (by rw [← HN.out]; omega) (by rw [HAL.out]; omega)
      have BW : Below B w w10 := (kb.mono hB).grown gr10 (by rw [HAL.out]; omega) (fun q e => (own_atb HOWN.out q e).1)
      rw [← HN.out] at hrun
      have e0 : l.map Value.string ++ [Value.string ⟨#[]⟩] = (insL l n ⟨#[]⟩).map Value.string := by rw [HN.out, insL_end]; simp
      rw [e0, ← HN.out] at hown
      have wp3 : IntKind.i64.wrap ((n : Int) + 1 - 1) = (n : Int) := by rw [wrT (by omega) (by omega)]; omega
      have wp4 : IntKind.i64.wrap ((n : Int)) = (n : Int) := wrT (by omega) (by omega)
      clear kb gr10 e0
      go_upto_region 7 with (at_builtin; refine wpList_append_run rfl _ _ _ rfl _ (by exact hrun) ?_)
      clear hrun
      go_wp2
      go_loopw [6] (fun iv V => ∃ (k : Nat) (X : ByteArray), n ≤ k ∧ k ≤ n ∧ iv = .int .i64 (k : Nat) ∧ V.ownsRow B 9 1 (.slice co (n + 1) cc) (n + 1) ((insL l k X).map Value.string) ∧ Below B w V) (fun iv _ => (intOf iv).toNat)
      case atStart => exact ⟨n, ⟨#[]⟩, by omega, Nat.le_refl _, rfl, hown, BW⟩
      case round =>
        obtain ⟨k, X, hik, hkn, rfl, OW, BV⟩ := hrel
        clear hown BW
        obtain ⟨g', rfl, hgB', hgw', hcell'⟩ := own_txt OW (by omega)
        by_cases hlt2 : n < k
        · omega
        · obtain rfl : n = k := by omega
          have u1 : decide ((n : Int) < (n : Int)) = false := by simp
          have bq1 : (n : Int) < (n : Int) + 1 := by omega
          obtain ⟨OW2, ⟨vq, cv⟩, fq, gq⟩ := own_put (Value.string t) OW (show n < n + 1 by omega)
          rw [← List.map_set, insL_set (by rw [← HN.out]; omega)] at OW2
          have BV2 := BV.grown gq (Nat.le_trans hB BV.size) (fun q e => by injection e with e; omega)
          have HO2 : Hid (_) := OW2
          clear hcell' OW OW2 gq
          go_wp2
          go_ret
          have el : (insL l n t).length = n + 1 := by rw [insL_len, HN.out]
          exact ⟨insL l n t, some ⟨g', 0, none⟩, cc, by rw [el]; rfl, by rw [el]; exact HO2.out, BV2, by rw [el]; exact Nat.le_refl _, fun hs => put_in HA.out.1 HNE.out (fun j h hj => by
            have e1 : ∀ q (hq : q < l.length), q + 1 = n → l[q].toList < t.toList := HA.out.2
            obtain ⟨q, hq⟩ : ∃ q, n = q + 1 := ⟨n - 1, by omega⟩
            have hql : q < l.length := by rw [← HN.out]; omega
            have h1 := e1 q hql hq.symm
            by_cases e : j = q
            · subst e; exact h1
            · have h2 := List.pairwise_iff_getElem.1 hs j q (by simp [bys]; omega) (by simp [bys]; omega) (by omega)
              have h3 : l[j].toList < l[q].toList := by simpa [bys, ByteArray.toList_eq] using h2
              exact List.lt_trans h3 h1) hs⟩
end Go.Proofs.YtiahilelcppfgaaGreat
