
/- Contract of package digit: the digits of a number. -/

import Derived.Test.YtjnlkdeiccllgaaZJ
import Derived.Test.YtjnlkdeiccllgaaIndices


namespace Go.Proofs.Ytjnlkdeiccllgaa

open Go.RowKit Go.Shelf Go.Deep
attribute [local go_sem] Oper.semAt_some
set_option linter.unusedVariables false

/-- What is left to be divided when the numbers from k on are done. -/
def tbV (bs : List Int) (r0 : Int) (k : Nat) : Int := (bs.drop k).foldr (fun b r => dvQ r b) r0
theorem tbV_at {bs : List Int} {r0 : Int} {k : Nat} (h : k < bs.length) : tbV bs r0 k = dvQ (tbV bs r0 (k + 1)) (nth bs k) := by
  unfold tbV
  rw [List.drop_eq_getElem_cons h, List.foldr_cons, nth_lt h]
theorem tbV_end {bs : List Int} {r0 : Int} {k : Nat} (h : bs.length ≤ k) : tbV bs r0 k = r0 := by
  unfold tbV; rw [List.drop_eq_nil_of_le h]; rfl
def tbD (bs : List Int) (r0 : Int) (k : Nat) : Int := dvL (tbV bs r0 (k + 1)) (nth bs k)
def tbO (bs : List Int) (r0 : Int) (k : Nat) : Int := dvE (tbV bs r0 (k + 1)) (nth bs k)
theorem inr_dvQ (n b : Int) : Nm.inr (dvQ n b) = true := by
  unfold dvQ Nm.divN
  split
  · rfl
  · exact Nm.inr_cut _
theorem inr_dvL {n b : Int} (hn : Nm.inr n = true) (hb : Nm.inr b = true) : Nm.inr (dvL n b) = true := by
  unfold dvL
  split
  · exact hn
  · rename_i h
    rw [Nm.inr_iff] at *
    rcases Int.lt_or_gt_of_ne h with h | h
    · have := Nm.fmod_neg (y := n) h; omega
    · have := Nm.fmod_pos (y := n) h; omega
theorem dvE_two (n b : Int) : dvE n b = 0 ∨ dvE n b = 14 := by
  unfold dvE Nm.divE Nm.ovr
  split
  · exact .inl rfl
  · split
    · exact .inl rfl
    · exact .inr rfl
theorem inr_tbV {bs : List Int} {r0 : Int} (h0 : Nm.inr r0 = true) (k : Nat) : Nm.inr (tbV bs r0 k) = true := by
  by_cases h : k < bs.length
  · rw [tbV_at h]; exact inr_dvQ _ _
  · rw [tbV_end (by omega)]; exact h0

set_option maxRecDepth 100000 in
set_option maxHeartbeats 2000000 in
/-- slices.Backward's closure: every round, from the last one on, till one says that it is enough. -/
theorem backL_any (q l Bs : Nat) (hq : 1 ≤ q) (ao : Option Addr) (n cap : Nat) (zs : List Int) (hroom : n * 8 ≤ 140737488351232) (J : Nat → World → Prop) (Z : World → Prop)
    (hJ : ∀ k W, J k W → W.cell? ⟨Bs, 0, none⟩ = some (.slice ao n cap) ∧ Rd W ao n zs)
    (hY : ∀ k W, k < n → J (k + 1) W → YieldAt Fence.wide (q - 1) Try.prog l #[.int .i64 (k : Nat), .int .i64 (nth zs k)] W fun e W' => (e = .returned (.bool true) ∧ J k W') ∨ (e = .returned (.bool false) ∧ Z W'))
    (W : World) (h0 : J n W) :
    CallsIn Fence.wide q Try.prog 58 #[.func (.yield l) #[] #[], .pointer (some ⟨Bs, 0, none⟩)] W fun e W' => (∃ v, e = .returned v) ∧ (J 0 W' ∨ Z W') := by
  have hc0 := (hJ _ _ h0).1
  refine callsIn_of_wp Try.func58 rfl trivial ?_ rfl
  simp only [Try.ntmps58, List.size_toArray, List.length_cons, List.length_nil, Nat.reduceAdd, Nat.reduceSub, Array.replicate_succ, Array.replicate_zero, List.push_toArray, List.append_toArray, List.nil_append, List.cons_append]
  gi_wp2
  gi_loopw [3] (fun i wr => ∃ k : Nat, k ≤ n ∧ i = .int .i64 ((k : Int) - 1) ∧ J k wr) (fun i _ => (intOf i + 1).toNat)
  case atStart => exact ⟨n, Nat.le_refl _, rfl, h0⟩
  case round =>
    obtain ⟨k, hk, rfl, hJk⟩ := hrel
    clear hc0
    cases k with
    | zero =>
      gi_wp2
      go_end0
      exact ⟨⟨_, rfl⟩, .inl hJk⟩
    | succ k =>
      obtain ⟨hc, hr⟩ := hJ _ _ hJk
      obtain ⟨b, off, rfl, hb, hcs⟩ := hr.cells (by omega)
      have c1 := hcs k (by omega)
      obtain ⟨fn, tmps, assign, body, hy, hR⟩ := hY k wr (by omega) hJk
      clear hcs hr
      gi_wp2
      refine hR.mono ?_
      rintro e W3 (⟨rfl, hJ3⟩ | ⟨rfl, hZ3⟩)
      · gi_wp2
        go_roundw
        case rel => exact ⟨k, by omega, by go_num, hJ3⟩
        case measure => simp [intOf]
      · gi_wp2
        refine bodyPost_ret (results_none rfl _ _ _) rfl ?_
        exact ⟨⟨_, rfl⟩, .inr hZ3⟩

theorem backL (a : Option Addr) (n cap : Nat) (q : Nat) (w : World) :
    CallsIn Fence.wide q Try.prog 41 #[.slice a n cap] w fun e w' => e = .returned (.func (.func 58) #[] #[.pointer (some ⟨w.heap.size, 0, none⟩)]) ∧ w' = w.alloc (.cells #[.slice a n cap] 24) := by
  refine callsIn_of_wp Try.func41 rfl trivial ?_ rfl
  simp only [Try.ntmps41, List.size_toArray, List.length_cons, List.length_nil, Nat.reduceAdd, Nat.reduceSub, Array.replicate_succ, Array.replicate_zero, List.push_toArray, List.append_toArray, List.nil_append, List.cons_append]
  gi_wp2
  go_ret
  exact ⟨rfl, rfl⟩

/-- Between two rounds of toBase. -/
structure TbI (w : World) (so : Option Addr) (sn sc : Nat) (ao : Option Addr) (an ac : Nat) (f rv : Nat → Int) (k : Nat) (W : World) : Prop where
  x : W.heap[w.heap.size]? = some (.cells #[.slice so sn sc, .slice ao an ac] 26 (0, 0))
  r : W.heap[w.heap.size + 1 + 1]? = some (.cells #[.slice none 0 0, .slice none 0 0] 26 (0, 0))
  e : Boxed W (w.heap.size + 1 + 1 + 1) 27 (.int .i64 0)
  row : ∃ zs, Ft 2 W (w.heap.size + 1 + 1 + 1 + 1) (some ⟨w.heap.size + 1 + 1 + 1 + 1, 0, none⟩) an an zs ∧ ∀ j, k ≤ j → j < an → nth zs j = f j
  d : Boxed W (w.heap.size + 1 + 1 + 1 + 1 + 1) 24 (.slice (some ⟨w.heap.size + 1 + 1 + 1 + 1, 0, none⟩) an an)
  v : Boxed W (w.heap.size + 1 + 1 + 1 + 1 + 1 + 1) 2 (.int .i64 (rv k))
  b : Boxed W (w.heap.size + 1 + 1 + 1 + 1 + 1 + 1 + 1) 24 (.slice ao an ac)
  bel : Below w.heap.size w W
theorem TbI.kept {w : World} {so : Option Addr} {sn sc : Nat} {ao : Option Addr} {an ac : Nat} {f rv : Nat → Int} {k : Nat} {row : Option Nat} {W W' : World} (h : TbI w so sn sc ao an ac f rv k W) (hg : W.grownBy W' row) (hl : ∀ l, row = some l → w.heap.size + 8 ≤ l) : TbI w so sn sc ao an ac f rv k W' := by
  have ne : ∀ b, b < w.heap.size + 8 → some b ≠ row := fun b hb e => by have := hl b e.symm; omega
  obtain ⟨zs, z1, z2⟩ := h.row
  refine ⟨(hg.block _ (Array.getElem?_eq_some_iff.1 h.x).1 (ne _ (by omega))).trans h.x, (hg.block _ (Array.getElem?_eq_some_iff.1 h.r).1 (ne _ (by omega))).trans h.r, h.e.kept hg (ne _ (by omega)), ⟨zs, z1.keep1 hg (fun b off e => by cases e; exact ne _ (by omega)), z2⟩, h.d.kept hg (ne _ (by omega)), h.v.kept hg (ne _ (by omega)), h.b.kept hg (ne _ (by omega)), h.bel.grown hg h.bel.size (fun k e => by have := hl k e; omega)⟩
theorem tb_start (w : World) (so : Option Addr) (sn sc : Nat) (ao : Option Addr) (an ac : Nat) (uo : Option Addr) (un uc : Nat) (bo : Option Addr) (bn bc : Nat) (f rv : Nat → Int) (r0 : Int) (hr : an * 8 ≤ 140737488351232) (hv : rv an = r0) : TbI w so sn sc ao an ac f rv an ((((((((w.alloc (.cells #[.slice so sn sc, .slice ao an ac] 26)).alloc (.cells #[.slice uo un uc, .slice bo bn bc] 26)).alloc (.cells #[.slice none 0 0, .slice none 0 0] 26)).alloc (.cells #[.int .i64 0] 27)).alloc (.cells (madeCells #[.int .i64 0] an) 2)).alloc (.cells #[.slice (some ⟨w.heap.size + 1 + 1 + 1 + 1, 0, none⟩) an an] 24)).alloc (.cells #[.int .i64 r0] 2)).alloc (.cells #[.slice ao an ac] 24)) := by
  have g0 := fun (V : World) o => World.grownBy_alloc V o none
  have k0 := box_below w (.cells #[.slice so sn sc, .slice ao an ac] 26)
  have k1 := box_below (w.alloc (.cells #[.slice so sn sc, .slice ao an ac] 26)) (.cells #[.slice uo un uc, .slice bo bn bc] 26)
  have k2 := box_below ((w.alloc (.cells #[.slice so sn sc, .slice ao an ac] 26)).alloc (.cells #[.slice uo un uc, .slice bo bn bc] 26)) (.cells #[.slice none 0 0, .slice none 0 0] 26)
  have k3 := box_below (((w.alloc (.cells #[.slice so sn sc, .slice ao an ac] 26)).alloc (.cells #[.slice uo un uc, .slice bo bn bc] 26)).alloc (.cells #[.slice none 0 0, .slice none 0 0] 26)) (.cells #[.int .i64 0] 27)
  have k4 := box_below ((((w.alloc (.cells #[.slice so sn sc, .slice ao an ac] 26)).alloc (.cells #[.slice uo un uc, .slice bo bn bc] 26)).alloc (.cells #[.slice none 0 0, .slice none 0 0] 26)).alloc (.cells #[.int .i64 0] 27)) (.cells (madeCells #[.int .i64 0] an) 2)
  have k5 := box_below (((((w.alloc (.cells #[.slice so sn sc, .slice ao an ac] 26)).alloc (.cells #[.slice uo un uc, .slice bo bn bc] 26)).alloc (.cells #[.slice none 0 0, .slice none 0 0] 26)).alloc (.cells #[.int .i64 0] 27)).alloc (.cells (madeCells #[.int .i64 0] an) 2)) (.cells #[.slice (some ⟨w.heap.size + 1 + 1 + 1 + 1, 0, none⟩) an an] 24)
  have k6 := box_below ((((((w.alloc (.cells #[.slice so sn sc, .slice ao an ac] 26)).alloc (.cells #[.slice uo un uc, .slice bo bn bc] 26)).alloc (.cells #[.slice none 0 0, .slice none 0 0] 26)).alloc (.cells #[.int .i64 0] 27)).alloc (.cells (madeCells #[.int .i64 0] an) 2)).alloc (.cells #[.slice (some ⟨w.heap.size + 1 + 1 + 1 + 1, 0, none⟩) an an] 24)) (.cells #[.int .i64 r0] 2)
  have k7 := box_below (((((((w.alloc (.cells #[.slice so sn sc, .slice ao an ac] 26)).alloc (.cells #[.slice uo un uc, .slice bo bn bc] 26)).alloc (.cells #[.slice none 0 0, .slice none 0 0] 26)).alloc (.cells #[.int .i64 0] 27)).alloc (.cells (madeCells #[.int .i64 0] an) 2)).alloc (.cells #[.slice (some ⟨w.heap.size + 1 + 1 + 1 + 1, 0, none⟩) an an] 24)).alloc (.cells #[.int .i64 r0] 2)) (.cells #[.slice ao an ac] 24)
  simp only [World.size_alloc] at k1 k2 k3 k4 k5 k6 k7
  have hx := allocNew w (.cells #[.slice so sn sc, .slice ao an ac] 26)
  have hr' := allocNew ((w.alloc (.cells #[.slice so sn sc, .slice ao an ac] 26)).alloc (.cells #[.slice uo un uc, .slice bo bn bc] 26)) (.cells #[.slice none 0 0, .slice none 0 0] 26)
  have he := Boxed.new (((w.alloc (.cells #[.slice so sn sc, .slice ao an ac] 26)).alloc (.cells #[.slice uo un uc, .slice bo bn bc] 26)).alloc (.cells #[.slice none 0 0, .slice none 0 0] 26)) 27 (.int .i64 0)
  have hm := made_ftT 2 ((((w.alloc (.cells #[.slice so sn sc, .slice ao an ac] 26)).alloc (.cells #[.slice uo un uc, .slice bo bn bc] 26)).alloc (.cells #[.slice none 0 0, .slice none 0 0] 26)).alloc (.cells #[.int .i64 0] 27)) an hr
  have hd := Boxed.new (((((w.alloc (.cells #[.slice so sn sc, .slice ao an ac] 26)).alloc (.cells #[.slice uo un uc, .slice bo bn bc] 26)).alloc (.cells #[.slice none 0 0, .slice none 0 0] 26)).alloc (.cells #[.int .i64 0] 27)).alloc (.cells (madeCells #[.int .i64 0] an) 2)) 24 (.slice (some ⟨w.heap.size + 1 + 1 + 1 + 1, 0, none⟩) an an)
  have hv' := Boxed.new ((((((w.alloc (.cells #[.slice so sn sc, .slice ao an ac] 26)).alloc (.cells #[.slice uo un uc, .slice bo bn bc] 26)).alloc (.cells #[.slice none 0 0, .slice none 0 0] 26)).alloc (.cells #[.int .i64 0] 27)).alloc (.cells (madeCells #[.int .i64 0] an) 2)).alloc (.cells #[.slice (some ⟨w.heap.size + 1 + 1 + 1 + 1, 0, none⟩) an an] 24)) 2 (.int .i64 r0)
  have hb := Boxed.new (((((((w.alloc (.cells #[.slice so sn sc, .slice ao an ac] 26)).alloc (.cells #[.slice uo un uc, .slice bo bn bc] 26)).alloc (.cells #[.slice none 0 0, .slice none 0 0] 26)).alloc (.cells #[.int .i64 0] 27)).alloc (.cells (madeCells #[.int .i64 0] an) 2)).alloc (.cells #[.slice (some ⟨w.heap.size + 1 + 1 + 1 + 1, 0, none⟩) an an] 24)).alloc (.cells #[.int .i64 r0] 2)) 24 (.slice ao an ac)
  simp only [World.size_alloc] at hr' he hm hd hv' hb
  refine ⟨(k7.block _ (by omega)).trans ((k6.block _ (by omega)).trans ((k5.block _ (by omega)).trans ((k4.block _ (by omega)).trans ((k3.block _ (by omega)).trans ((k2.block _ (by omega)).trans ((k1.block _ (by omega)).trans (hx))))))), (k7.block _ (by omega)).trans ((k6.block _ (by omega)).trans ((k5.block _ (by omega)).trans ((k4.block _ (by omega)).trans ((k3.block _ (by omega)).trans (hr'))))), ((((he).alloc (.cells (madeCells #[.int .i64 0] an) 2)).alloc (.cells #[.slice (some ⟨w.heap.size + 1 + 1 + 1 + 1, 0, none⟩) an an] 24)).alloc (.cells #[.int .i64 r0] 2)).alloc (.cells #[.slice ao an ac] 24), ⟨_, (((hm).keep1 (g0 _ _) (by simp)).keep1 (g0 _ _) (by simp)).keep1 (g0 _ _) (by simp), fun j h1 h2 => by omega⟩, ((hd).alloc (.cells #[.int .i64 r0] 2)).alloc (.cells #[.slice ao an ac] 24), by rw [hv]; exact (hv').alloc (.cells #[.slice ao an ac] 24), hb, (((((((k0).trans (k1.mono (by omega))).trans (k2.mono (by omega))).trans (k3.mono (by omega))).trans (k4.mono (by omega))).trans (k5.mono (by omega))).trans (k6.mono (by omega))).trans (k7.mono (by omega))⟩
theorem TbI.step {w : World} {so : Option Addr} {sn sc : Nat} {ao : Option Addr} {an ac : Nat} {f rv : Nat → Int} {k l : Nat} {L : Lp} {V : World} (h : TbI w so sn sc ao an ac f rv (k + 1) V) (hk : k < an) (h1 : -9223372036854775808 ≤ f k) (h2 : f k ≤ 9223372036854775807) (hr : L.is .busy none l V) (hl1 : w.heap.size + 8 ≤ l) (hl2 : w.heap.size + 8 ≤ L.own) :
    L.is .busy none l ((V.setCell ⟨w.heap.size + 1 + 1 + 1 + 1, k, none⟩ (.int .i64 (f k))).setCell ⟨w.heap.size + 1 + 1 + 1 + 1 + 1 + 1, 0, none⟩ (.int .i64 (rv k))) ∧
    ∀ W', ((V.setCell ⟨w.heap.size + 1 + 1 + 1 + 1, k, none⟩ (.int .i64 (f k))).setCell ⟨w.heap.size + 1 + 1 + 1 + 1 + 1 + 1, 0, none⟩ (.int .i64 (rv k))).grownBy W' (some l) → TbI w so sn sc ao an ac f rv k W' := by
  obtain ⟨zs, z1, z2⟩ := h.row
  have hg1 : V.grownBy (V.setCell ⟨w.heap.size + 1 + 1 + 1 + 1, k, none⟩ (.int .i64 (f k))) (some (w.heap.size + 1 + 1 + 1 + 1)) := (z1.own.stored k (.int .i64 (f k))).2
  have hg2 := grownBy_setCell' (V.setCell ⟨w.heap.size + 1 + 1 + 1 + 1, k, none⟩ (.int .i64 (f k))) (w.heap.size + 1 + 1 + 1 + 1 + 1 + 1) (.int .i64 (rv k))
  have r2 := (hr.kept hg1 (some_ne (by omega)) (some_ne (by omega))).kept hg2 (some_ne (by omega)) (some_ne (by omega))
  have z3 := (z1.setT k hk (f k) h1 h2).keep1 hg2 (by intro b off e; cases e; exact some_ne (by omega))
  have all : TbI w so sn sc ao an ac f rv k ((V.setCell ⟨w.heap.size + 1 + 1 + 1 + 1, k, none⟩ (.int .i64 (f k))).setCell ⟨w.heap.size + 1 + 1 + 1 + 1 + 1 + 1, 0, none⟩ (.int .i64 (rv k))) := by
    refine ⟨(hg2.block _ (Nat.lt_of_lt_of_le (Array.getElem?_eq_some_iff.1 h.x).1 hg1.size) (some_ne (by omega))).trans ((hg1.block _ (Array.getElem?_eq_some_iff.1 h.x).1 (some_ne (by omega))).trans h.x), (hg2.block _ (Nat.lt_of_lt_of_le (Array.getElem?_eq_some_iff.1 h.r).1 hg1.size) (some_ne (by omega))).trans ((hg1.block _ (Array.getElem?_eq_some_iff.1 h.r).1 (some_ne (by omega))).trans h.r), (h.e.kept hg1 (some_ne (by omega))).kept hg2 (some_ne (by omega)), ⟨_, z3, fun j a b => ?_⟩, (h.d.kept hg1 (some_ne (by omega))).kept hg2 (some_ne (by omega)), (h.v.kept hg1 (some_ne (by omega))).set _, (h.b.kept hg1 (some_ne (by omega))).kept hg2 (some_ne (by omega)), (h.bel.setCell (p := ⟨w.heap.size + 1 + 1 + 1 + 1, k, none⟩) (by simp; omega) _).setCell (p := ⟨w.heap.size + 1 + 1 + 1 + 1 + 1 + 1, 0, none⟩) (by simp; omega) _⟩
    rw [nth_setL (by rw [z1.rd.len]; exact hk)]
    split
    · rename_i e; rw [e]
    · exact z2 j (by omega) b
  exact ⟨r2, fun W' hg => all.kept hg (fun j e => by cases e; exact hl1)⟩
end Go.Proofs.Ytjnlkdeiccllgaa
