
/- Contract: an array's atoms are laid: the walk. -/

import Derived.Test.YtppcfpiihkaopaaGreatDoorA10

import Derived.Test.YtppcfpiihkaopaaGreatDoorThere1

import Derived.Laws.AppendOwnNone

import Derived.Lib.AppendZerosOnto

import Derived.Lib.Overlaps

import Derived.Deep.RegionLaw

namespace Go.Proofs.YtppcfpiihkaopaaGreatDoor

open Go.RowKit

set_option linter.unusedVariables false

set_option maxHeartbeats 1000000 in
theorem eqAtoms_any (ao bo : Option Addr) (n m cap cap' : Nat) (zs ys : List Int) (w : World) (h : Rd w ao n zs) (g : Rd w bo m ys) :
    Calls Tryz.prog 26 #[.slice ao n cap, .slice bo m cap'] w fun e w' => e = .returned (.bool (eqB zs ys)) ∧ ∃ q, w' = w.drewN q := by
  have hroom := h.room
  have groom := g.room
  have HL : Hid (zs.length = n) := h.len
  have GL : Hid (ys.length = m) := g.len
  by_cases hnm : n = m
  · subst hnm
    go_enter Tryz.func26, Tryz.ntmps26
    go_wp2
    go_loopw [5] (fun i wr => ∃ k : Nat, k ≤ n ∧ i = .int .i64 (k : Nat) ∧ (∀ j, j < k → nth zs j = nth ys j) ∧ ∃ q, wr = w.drewN q) (fun i _ => n - (intOf i).toNat)
    case atStart => exact ⟨0, Nat.zero_le _, rfl, fun j hj => by omega, 0, rfl⟩
    case round =>
      obtain ⟨k, hk, rfl, hz, q, rfl⟩ := hrel
      by_cases hlt : k < n
      · obtain ⟨b, off, rfl, hb, hc⟩ := h.cells (by omega)
        obtain ⟨b2, off2, rfl, hb2, hc2⟩ := g.cells (by omega)
        have c1 := hc k hlt
        have c2 := hc2 k hlt
        have HZ : Hid (∀ j, j < k → nth zs j = nth ys j) := hz
        clear hc hc2 hz h g
        by_cases he : nth zs k = nth ys k
        · have HE : Hid (nth zs k = nth ys k) := he
          have hne : (nth zs k != nth ys k) = false := by simpa using he
          clear he
          go_wp2
          go_quiet (fail)
          go_wp2
          go_roundw
          case rel => exact ⟨k + 1, by omega, by go_num, fun j hj => by by_cases e : j = k; (· subst e; exact HE.out); exact HZ.out j (by omega), _, rfl⟩
          case measure => simp [intOf]; omega
        · have hne : (nth zs k != nth ys k) = true := by simpa using he
          have HE : Hid (nth zs k ≠ nth ys k) := he
          clear he
          go_wp2
          go_quiet (fail)
          go_wp2
          go_ret
          exact ⟨ret_bool (eqB_no (k := k) (by have := HL.out; omega) HE.out).symm, q + nq, by simp⟩
      · obtain rfl : k = n := by omega
        have HZ : Hid (∀ j, j < k → nth zs j = nth ys j) := hz
        clear hz h g
        go_wp2
        go_ret
        exact ⟨ret_bool (eqB_yes (by have := HL.out; have := GL.out; omega) (fun j hj => HZ.out j (by have := HL.out; omega))).symm, _, rfl⟩
  · have hnm' : ((n : Int) != (m : Int)) = true := by simp; omega
    go_enter Tryz.func26, Tryz.ntmps26
    go_wp2
    go_ret
    exact ⟨ret_bool (eqB_len (by have := HL.out; have := GL.out; omega)).symm, 0, rfl⟩

set_option maxHeartbeats 1000000 in
theorem eq4_any (so ao to bo : Option Addr) (sn sc an ac tn tc bn bc : Nat) (s a t b : List Int) (w : World) (hs : Rd w so sn s) (ha : Rd w ao an a) (ht : Rd w to tn t) (hb : Rd w bo bn b) :
    Calls Tryz.prog 11 #[.agg #[.slice so sn sc, .slice ao an ac], .agg #[.slice to tn tc, .slice bo bn bc]] w fun e w' => e = .returned (.bool (eqA s a t b)) ∧ Below w.heap.size w w' := by
  have k1 := box_below w (.cells #[.slice so sn sc, .slice ao an ac] 36)
  have k2 := box_below (w.alloc (.cells #[.slice so sn sc, .slice ao an ac] 36)) (.cells #[.slice to tn tc, .slice bo bn bc] 36)
  have tw := two_boxes w so ao to bo sn sc an ac tn tc bn bc
  have hs' := (hs.below k1 (Nat.le_refl _)).below k2 (Nat.le_refl _)
  have ha' := (ha.below k1 (Nat.le_refl _)).below k2 (Nat.le_refl _)
  have ht' := (ht.below k1 (Nat.le_refl _)).below k2 (Nat.le_refl _)
  have hb' := (hb.below k1 (Nat.le_refl _)).below k2 (Nat.le_refl _)
  have e1 := eqInts_any so to sn tn sc tc s t _ hs' ht'
  have e2 := fun W (x : Rd W ao an a) (y : Rd W bo bn b) => eqAtoms_any ao bo an bn ac bc a b W x y
  clear hs ha ht hb k1 k2 hs' ht'
  by_cases h : eqB s t = true
  · rw [h] at e1
    rw [eqA_at h]
    clear h
    go_enter Tryz.func11, Tryz.ntmps11
    go_wp2_with (first
      | (go_at_call 25; refine e1.mono ?_; rintro e w1 ⟨rfl, q, hw⟩; have tw1 := tw.drewN q; have ha1 := ha'.drewN q; have hb1 := hb'.drewN q; rw [← hw] at tw1 ha1 hb1; clear hw; obtain ⟨_, t2, _, t4, bel⟩ := tw1)
      | (go_at_call 26; refine (e2 _ ha1 hb1).mono ?_; rintro e w2 ⟨rfl, q2, hw2⟩; have bel2 := below_drewN bel q2; rw [← hw2] at bel2; clear hw2))
    go_ret
    exact ⟨rfl, bel2⟩
  · have h' : eqB s t = false := by simpa using h
    rw [h'] at e1
    rw [eqA_sh h']
    clear h h'
    go_enter Tryz.func11, Tryz.ntmps11
    go_wp2_with (go_at_call 25; refine e1.mono ?_; rintro e w1 ⟨rfl, q, hw⟩; have tw1 := tw.drewN q; rw [← hw] at tw1; clear hw; obtain ⟨_, t2, _, t4, bel⟩ := tw1)
    go_ret
    exact ⟨rfl, bel⟩

/-- A list of one's own, of either word. -/
theorem Fr.ft {w : World} {B : Nat} {ao : Option Addr} {n cap : Nat} {zs : List Int} (h : Fr w B ao n cap zs) : Ft 3 w B ao n cap zs := ⟨h.rd, h.own⟩

/-- A copy into a row of one's own, when it is run, of either kind of number. -/
theorem Ty.one {s e : TypeId} (ty : Ty s e) : (Tryz.prog.info? e).map (·.size) = some 1 := by
  obtain ⟨i0, hi, hz0, hz1, hz2⟩ := info_parts ty.info
  rw [hi]; simp [hz1]
/-- A row that holds these numbers at its head. -/
theorem Ft.row {e : TypeId} {w : World} {B g n cap : Nat} {zs : List Int} {cur : List Value} (hg : w.heap[g]? = some (.cells cur.toArray e (0, 0))) (hB : B ≤ g) (hl : zs.length = n) (hr : n * 8 ≤ 140737488351232) (hn : ∀ k, k < n → -9223372036854775808 ≤ nth zs k ∧ nth zs k ≤ 9223372036854775807)
    (hnc : n ≤ cap) (hcm : cap ≤ maxLen) (hcl : cur.length = cap) (ht : cur.take n = zs.map (Value.int .i64)) : Ft e w B (some ⟨g, 0, none⟩) n cap zs := by
  obtain ⟨ao, cap', ee, hf⟩ := Ft.mk' (e := e) (w := w) (B := B) (v := .slice (some ⟨g, 0, none⟩) n cap) hl hr hn ⟨by simp [hl], .inr ⟨g, cap, cur.toArray, rfl, hB, hg, hnc, hcm, by simp [hcl], by simpa using ht⟩⟩
  cases ee
  exact hf
end Go.Proofs.YtppcfpiihkaopaaGreatDoor

namespace Go.Proofs.YtppcfpiihkaopaaGreatDoor

open Go.RowKit

set_option linter.unusedVariables false

theorem run_join {w : World} (ty : TypeId) (B : Nat) (ao bo : Option Addr) (n cap m cap' : Nat) (zs ys : List Int) (h : Fr w B ao n cap zs) (g : Rd w bo m ys) (gs : Sl bo m cap') (hr : (n + m) * 8 ≤ 140737488351232) (hB : B ≤ w.heap.size) :
    ∃ co c w', (Builtin.append_ #[25, 25] ty #[.slice ao n cap, .slice bo m cap']).run Tryz.prog w = .ok (.slice co (n + m) c) w' ∧ Fr w' B co (n + m) c (zs ++ ys) ∧ w.grownBy w' (Value.slice ao n cap).ownBlock := by
  obtain ⟨i0, hi, hz0, hz1, hz2⟩ := info_parts info3
  have hl := h.rd.len
  have gl := g.len
  have hnum : ∀ k, k < n + m → -9223372036854775808 ≤ nth (zs ++ ys) k ∧ nth (zs ++ ys) k ≤ 9223372036854775807 := by
    intro k hk
    by_cases c : k < n
    · have e : nth (zs ++ ys) k = nth zs k := by unfold nth; simp [List.getElem?_append, hl, c]
      rw [e]; exact h.rd.num k c
    · have e : nth (zs ++ ys) k = nth ys (k - n) := by unfold nth; simp [List.getElem?_append, hl, c]
      rw [e]; exact g.num _ (by omega)
  have fin : ∀ v w', w'.ownsRow B 3 1 v (n + m) (zs.map (Value.int .i64) ++ ys.map (Value.int .i64)) → ∃ co c, v = .slice co (n + m) c ∧ Fr w' B co (n + m) c (zs ++ ys) := fun v w' ho =>
    Fr.mk' (by simp [hl, gl]) hr hnum (by rw [List.map_append]; exact ho)
  cases bo with
  | none =>
    obtain ⟨rfl, rfl⟩ := gs.nil rfl
    have hy : ys = [] := List.eq_nil_of_length_eq_zero gl
    subst hy
    have hrun := run_append_owned_none (P := Tryz.prog) (w := w) B 25 ty 3 i0 1 Tryz.underlying25 hi _ n _ h.own
    refine ⟨ao, cap, w, hrun, ?_, World.grownBy.refl _ _⟩
    rw [List.append_nil]; exact h
  | some a =>
    have hnews : ∀ j u, (ys.map (Value.int .i64))[j]? = some u → w.cell? (a.add j) = some u := by
      intro j u hu
      have hj : j < m := by
        have := (List.getElem?_eq_some_iff.1 hu).1
        simpa [gl] using this
      obtain ⟨b, off, e, _, hc⟩ := g.cells (by omega)
      cases e
      exact Rd.news gl hc j u hu
    obtain ⟨v', w', hrun, hown, hgrow, _⟩ := run_append_own (P := Tryz.prog) w B 25 ty 3 i0 (.int .i64 0) 1 8 Tryz.underlying25 hi hz0 hz1 hz2 rfl (by decide) _ n _ h.own a m cap' (ys.map (Value.int .i64)) (by rw [List.length_map, gl, Nat.mul_one]) hnews (ints_one ys) (by unfold maxLen; omega) (by omega) hB
    obtain ⟨co, c, rfl, hf⟩ := fin _ _ hown
    exact ⟨co, c, w', hrun, hf, hgrow⟩

end Go.Proofs.YtppcfpiihkaopaaGreatDoor

namespace Go.Proofs.YtppcfpiihkaopaaGreatDoor

open Go.RowKit

set_option linter.unusedVariables false

theorem grown_trans {a b c : World} {r : Option Nat} (h : a.grownBy b r) (k : b.grownBy c r) : a.grownBy c r :=
  ⟨k.os.trans h.os, k.tape.trans h.tape, k.output.trans h.output, Nat.le_trans h.size k.size, fun j hj hne => (k.block j (Nat.lt_of_lt_of_le hj h.size) hne).trans (h.block j hj hne)⟩
theorem set4 (W : World) (b : Nat) (x y u v : Value) : W.grownBy ((((W.setCell ⟨b, 0, none⟩ x).setCell ⟨b, 1, none⟩ y).setCell ⟨b, 2, none⟩ u).setCell ⟨b, 3, none⟩ v) (some b) :=
  grown_trans (set2 W b 0 1 x y) (set2 _ b 2 3 u v)
end Go.Proofs.YtppcfpiihkaopaaGreatDoor

namespace Go.Proofs.YtppcfpiihkaopaaGreatDoor

open Go.RowKit

set_option linter.unusedVariables false

/-- A row of another kind is changed: a list of one's own stays. -/
theorem Ft.kind {e : TypeId} {W W' : World} {B b : Nat} {o : Option Addr} {n c : Nat} {zs : List Int} (h : Ft e W B o n c zs) (hg : W.grownBy W' (some b)) {cur : Array Value} {t : TypeId} (hb : W.heap[b]? = some (.cells cur t (0, 0))) (hne : e ≠ t) : Ft e W' B o n c zs :=
  h.keep1 hg (fun b' off e' => by
    intro e2
    rcases h.own.2 with ⟨e3, _⟩ | ⟨g, c', cur', e3, _, hg', _⟩
    · cases e3; cases e'
    · cases e3; cases e'; cases e2
      rw [hg'] at hb
      cases hb
      exact hne rfl)
end Go.Proofs.YtppcfpiihkaopaaGreatDoor

namespace Go.Proofs.YtppcfpiihkaopaaGreatDoor

open Go.RowKit Go.Shelf

attribute [local go_sem] Oper.semAt_some

set_option linter.unusedVariables false

theorem heap_keptL {W W' : World} {B l : Nat} {o : Obj} {r : Loop} (h : W.heap[B]? = some o) (ho : ∀ r, o ≠ .loop r) (hg : W.grownBy W' (some l)) (hl : W.heap[l]? = some (.loop r)) : W'.heap[B]? = some o := by
  refine (hg.block B (Array.getElem?_eq_some_iff.1 h).1 (fun e => ?_)).trans h
  cases e
  rw [hl] at h
  exact ho r (by cases h; rfl)
theorem boxed_kept' {W W' : World} {B l : Nat} {t : TypeId} {v : Value} {r : Loop} (h : Boxed W B t v) (hg : W.grownBy W' (some l)) (hl : W.heap[l]? = some (.loop r)) : Boxed W' B t v := heap_keptL h (fun r e => by cases e) hg hl
end Go.Proofs.YtppcfpiihkaopaaGreatDoor
