
/- Contract: an array without atoms is laid: nothing is written. -/

import Derived.Test.YtjpdjnkmipfmbaaGreatL2

namespace Go.Proofs.YtjpdjnkmipfmbaaGreat

open Go.RowKit Go.Shelf
attribute [local go_sem] Oper.semAt_some
set_option linter.unusedVariables false

set_option maxRecDepth 100000 in
set_option maxHeartbeats 4000000 in
theorem lay_zero (io : Option Addr) (inn ic : Nat) (co : Option Addr) (cn cc : Nat) (so : Option Addr) (sn sc : Nat) (ao : Option Addr) (an ac : Nat) (sh : List Int) (w : World) (hs : Rd w so sn sh) (h0 : mayF sh = 0) (hz : pr sh = 0) (hsc : sn ≤ cn) (hcn : cn ≤ 8) :
    Calls Tryz.prog 90 #[.slice io inn ic, .slice co cn cc, .agg #[.slice so sn sc, .slice ao an ac]] w fun e w' => (∃ v, e = .returned v) ∧ Below w.heap.size w w' := by
  refine (callsIn_wide (n := 9)).1 ?_
  refine callsIn_of_wp_marks Tryz.func90 rfl trivial ?_ rfl
  simp only [Tryz.ntmps90, List.size_toArray, List.length_cons, List.length_nil, Nat.reduceAdd, Nat.reduceSub, Array.replicate_succ, Array.replicate_zero, List.push_toArray, List.append_toArray, List.nil_append, List.cons_append]
  have hmk := run_make_row' (P := Tryz.prog) 23 3 (.int .i64 0) 8 Tryz.underlying23 info3 rfl .i64 .i64 cn (by omega) (by omega)
  obtain ⟨d, hd⟩ : ∃ d : Nat, d = cn - sn := ⟨_, rfl⟩
  have e1 : (cn : Int) - (sn : Int) = (d : Int) := by omega
  have w1 : IntKind.i64.wrap (d : Int) = (d : Int) := wrapIn _ (by omega)
  have b1 : (0 : Int) ≤ (d : Int) := by omega
  have b2 : (d : Int) ≤ (cn : Int) := by omega
  have e2 : cn - d = sn := by omega
  have HZ : Hid (pr sh = 0) := hz
  have H0 : Hid (mayF sh = 0) := h0
  have k0 : ∀ bo : Option Addr, Below w.heap.size w ((((((w.alloc (.cells #[.slice io inn ic] 22)).alloc (.cells #[.slice co cn cc] 23)).alloc (.cells #[.slice so sn sc, .slice ao an ac] 25)).alloc (.cells (madeCells #[.int .i64 0] cn) 3)).alloc (.cells #[.slice (some ⟨w.heap.size + 1 + 1 + 1, 0, none⟩) cn cn] 23)).alloc (.cells #[.slice bo sn sn] 23)) := fun bo =>
    ((((((Below.refl _ w).alloc (Nat.le_refl _) _).alloc (by simp) _).alloc (by simp; omega) _).alloc (by simp; omega) _).alloc (by simp; omega) _).alloc (by simp; omega) _
  clear hd hsc hz h0
  obtain ⟨bo, hbo⟩ : ∃ bo, (if cn = d then some (⟨w.heap.size + 1 + 1 + 1, 0, none⟩ : Addr) else some ⟨w.heap.size + 1 + 1 + 1, d, none⟩) = bo := ⟨_, rfl⟩
  gi_wp2_with (refine ⟨trivial, ?_⟩; gi_at_call 106; refine (callsIn_wide.2 (all_any so sn sc sh _ ?_)).mono ?_; (· exact (((((hs.alloc _).alloc _).alloc _).alloc _).alloc _).alloc _); rintro e w4 ⟨B1, B2, qo, qc, rfl, hq4, hf4, hB1, hB2, hb4⟩)
  have k4 : Below w.heap.size w w4 := (k0 bo).trans (hb4.mono (by simp; omega))
  clear hb4 hf4 k0
  refine range_over (gf := 116) (lb := #[.pointer (some ⟨B1, 0, none⟩), .pointer (some ⟨B2, 0, none⟩)]) rfl (enters_of Tryz.func116 (by kernel_rfl) rfl) (fun W => Below w.heap.size w W) (fun _ _ => False) ?it ?done ?stop
  case stop => exact fun _ _ _ h => h.elim
  case done =>
    intro W hD hI
    gi_wp2
    refine ⟨by simp, .inl ⟨_, _, rfl, run_takeDeferred hD, ?_⟩⟩
    have g1 := grownBy_putObj' W w4.heap.size (.deferred none)
    exact ⟨_, results_none rfl _ _ _, ⟨_, rfl⟩, hI.grown g1 hI.size (fun k e => by cases e; exact k4.size)⟩
  case it =>
    intro L l W eT eP eA eB eO el hr hb hs5
    have q1 := hq4.below hb (Nat.le_refl _)
    have k5 : Below w.heap.size w W := k4.trans (hb.mono k4.size)
    have hl1 : w.heap.size ≤ l := by have := k4.size; omega
    clear el hs5 hb eO hq4
    refine (all1_range 8 l B1 B2 (by omega) qo sn qc sh H0.out (fun k W => L.is .ready none l W ∧ Sq W B1 B2 qo sn qc sh ∧ Below w.heap.size w W) ?hJ ?hJb ?hY W ⟨hr, q1, k5⟩).mono ?_
    case hJ => exact fun k W hJ => hJ.2.1
    case hJb => exact fun k W W' hJ hb => ⟨hJ.1.below hb (Nat.le_refl _), hJ.2.1.below hb (Nat.le_refl _), hJ.2.2.trans (hb.mono hJ.2.2.size)⟩
    case hY =>
      intro k W0 W1 lo lc hk
      have := HZ.out
      omega
    · rintro e W1 ⟨hv, hr1, hi1⟩
      exact ⟨hv, .inl ⟨hr1, fun W2 hg => hi1.2.grown hg hi1.2.size (fun k e => by cases e; exact hl1)⟩⟩
end Go.Proofs.YtjpdjnkmipfmbaaGreat
