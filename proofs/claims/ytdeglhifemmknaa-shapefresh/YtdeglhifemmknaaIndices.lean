
/- Contract of package shape's indices, over the library's slices.Backward. -/

import Derived.Test.YtdeglhifemmknaaLoop

import Derived.Test.YtdeglhifemmknaaMath2

import Derived.RangeFuncBound

import Derived.Deep.OwnRows

namespace Go.Proofs.Ytdeglhifemmknaa

open Go.RowKit Go.Shelf Go.Deep

attribute [local go_sem] Oper.semAt_some

set_option linter.unusedVariables false

set_option maxRecDepth 100000 in
set_option maxHeartbeats 2000000 in
/-- slices.Backward's closure: every round, from the last one on. -/
theorem backward1_any (q l Bs : Nat) (hq : 1 ≤ q) (ao : Option Addr) (n cap : Nat) (zs : List Int) (hroom : n * 8 ≤ 140737488351232) (J : Nat → World → Prop)
    (hJ : ∀ k W, J k W → W.cell? ⟨Bs, 0, none⟩ = some (.slice ao n cap) ∧ Rd W ao n zs)
    (hY : ∀ k W, k < n → J (k + 1) W → YieldAt Fence.wide (q - 1) Try.prog l #[.int .i64 (k : Nat), .int .i64 (nth zs k)] W fun e W' => e = .returned (.bool true) ∧ J k W')
    (W : World) (h0 : J n W) :
    CallsIn Fence.wide q Try.prog 38 #[.func (.yield l) #[] #[], .pointer (some ⟨Bs, 0, none⟩)] W fun e W' => (∃ v, e = .returned v) ∧ J 0 W' := by
  have hc0 := (hJ _ _ h0).1
  refine callsIn_of_wp Try.func38 rfl trivial ?_ rfl
  simp only [Try.ntmps38, List.size_toArray, List.length_cons, List.length_nil, Nat.reduceAdd, Nat.reduceSub, Array.replicate_succ, Array.replicate_zero, List.push_toArray, List.append_toArray, List.nil_append, List.cons_append]
  gi_wp2
  gi_loopw [3] (fun i wr => ∃ k : Nat, k ≤ n ∧ i = .int .i64 ((k : Int) - 1) ∧ J k wr) (fun i _ => (intOf i + 1).toNat)
  case atStart => exact ⟨n, Nat.le_refl _, rfl, h0⟩
  case round =>
    obtain ⟨k, hk, rfl, hJk⟩ := hrel
    clear hc0
    cases k with
    | zero =>
      gi_wp2
      go_end0
      exact ⟨⟨_, rfl⟩, hJk⟩
    | succ k =>
      obtain ⟨hc, hr⟩ := hJ _ _ hJk
      obtain ⟨b, off, rfl, hb, hcs⟩ := hr.cells (by omega)
      have c1 := hcs k (by omega)
      obtain ⟨fn, tmps, assign, body, hy, hR⟩ := hY k wr (by omega) hJk
      clear hcs hr
      gi_wp2
      refine hR.mono ?_
      rintro e W3 ⟨rfl, hJ3⟩
      gi_wp2
      go_roundw
      case rel => exact ⟨k, by omega, by go_num, hJ3⟩
      case measure => simp [intOf]

theorem backward_any (a : Option Addr) (n cap : Nat) (q : Nat) (w : World) :
    CallsIn Fence.wide q Try.prog 37 #[.slice a n cap] w fun e w' => e = .returned (.func (.func 38) #[] #[.pointer (some ⟨w.heap.size, 0, none⟩)]) ∧ w' = w.alloc (.cells #[.slice a n cap] 28) := by
  refine callsIn_of_wp Try.func37 rfl trivial ?_ rfl
  simp only [Try.ntmps37, List.size_toArray, List.length_cons, List.length_nil, Nat.reduceAdd, Nat.reduceSub, Array.replicate_succ, Array.replicate_zero, List.push_toArray, List.append_toArray, List.nil_append, List.cons_append]
  gi_wp2
  go_ret
  exact ⟨rfl, rfl⟩

/-- Between two rounds of indices: its three variables, and what lies below. -/
def idxI (w : World) (ao : Option Addr) (n cap : Nat) (zs : List Int) (p : Int) (k : Nat) (W : World) : Prop :=
  Boxed W w.heap.size 3 (.int .i64 (p / pr (zs.drop k))) ∧ Boxed W (w.heap.size + 1 + 1) 28 (.slice (some ⟨w.heap.size + 1, 0, none⟩) n n) ∧ Fr W w.heap.size (some ⟨w.heap.size + 1, 0, none⟩) n n (digK zs p k) ∧
    Boxed W (w.heap.size + 1 + 1 + 1) 28 (.slice ao n cap) ∧ Below w.heap.size w W

theorem some_ne {a b : Nat} (h : a ≠ b) : some a ≠ some b := fun e => h (by cases e; rfl)

theorem grown_of_below {W W' : World} (h : Below W.heap.size W W') : W.grownBy W' none := ⟨h.os, h.tape, h.output, h.size, fun k hk _ => h.block k hk⟩

theorem idxI.kept {w : World} {ao : Option Addr} {n cap : Nat} {zs : List Int} {p : Int} {k : Nat} {row : Option Nat} {W W' : World} (h : idxI w ao n cap zs p k W) (hg : W.grownBy W' row) (hl : ∀ l, row = some l → w.heap.size + 4 ≤ l) : idxI w ao n cap zs p k W' := by
  obtain ⟨h1, h2, h3, h4, h5⟩ := h
  have ne : ∀ b, b < w.heap.size + 4 → some b ≠ row := fun b hb e => by have := hl b e.symm; omega
  refine ⟨h1.kept hg (ne _ (by omega)), h2.kept hg (ne _ (by omega)), h3.kept hg ?_, h4.kept hg (ne _ (by omega)), h5.grown hg h5.size (fun k e => by have := hl k e; omega)⟩
  intro b off e
  cases e
  exact ne _ (by omega)

theorem idxI.step {w : World} {ao : Option Addr} {n cap : Nat} {zs : List Int} {p : Int} {k l : Nat} {L : Lp} {V : World} (h : idxI w ao n cap zs p (k + 1) V) (hl : zs.length = n) (hk : k < n) (hp : allPos zs) (h0 : 0 ≤ p) (h4 : p ≤ 4096) (hn : nth zs k ≤ 9223372036854775807)
    (hr : L.is .busy none l V) (hl1 : w.heap.size + 4 ≤ l) (hl2 : w.heap.size + 4 ≤ L.own) :
    L.is .busy none l ((V.setCell ⟨w.heap.size + 1, k, none⟩ (.int .i64 (p / pr (zs.drop (k + 1)) % nth zs k))).setCell ⟨w.heap.size, 0, none⟩ (.int .i64 (p / pr (zs.drop (k + 1)) / nth zs k))).drew ∧
    ∀ W', ((V.setCell ⟨w.heap.size + 1, k, none⟩ (.int .i64 (p / pr (zs.drop (k + 1)) % nth zs k))).setCell ⟨w.heap.size, 0, none⟩ (.int .i64 (p / pr (zs.drop (k + 1)) / nth zs k))).drew.grownBy W' (some l) → idxI w ao n cap zs p k W' := by
  obtain ⟨h1, h2, h3, h4, h5⟩ := h
  have hbd := dg_bd (p := p) (show k < zs.length by omega) hp
  have hg1 := (h3.own.stored k (.int .i64 (dg zs p k))).2
  have h3' := h3.set k hk (dg zs p k) (by omega) (by omega)
  rw [← digK_step (by omega)] at h3'
  have hg2 := grownBy_setCell' (V.setCell ⟨w.heap.size + 1, k, none⟩ (.int .i64 (dg zs p k))) w.heap.size (.int .i64 (p / pr (zs.drop (k + 1)) / nth zs k))
  have h1' := (h1.kept hg1 (some_ne (by omega))).set (.int .i64 (p / pr (zs.drop (k + 1)) / nth zs k))
  rw [← quo_step (m := k) (by omega) hp] at h1' hg2 ⊢
  have r2 := (hr.kept hg1 (some_ne (by omega)) (some_ne (by omega))).kept hg2 (some_ne (by omega)) (some_ne (by omega))
  have all : idxI w ao n cap zs p k ((V.setCell ⟨w.heap.size + 1, k, none⟩ (.int .i64 (dg zs p k))).setCell ⟨w.heap.size, 0, none⟩ (.int .i64 (p / pr (zs.drop k)))) :=
    ⟨h1', (h2.kept hg1 (some_ne (by omega))).kept hg2 (some_ne (by omega)), h3'.kept hg2 (by intro b off e; cases e; exact some_ne (by omega)), (h4.kept hg1 (some_ne (by omega))).kept hg2 (some_ne (by omega)), (h5.setCell (p := ⟨w.heap.size + 1, k, none⟩) (by simp) _).setCell (p := ⟨w.heap.size, 0, none⟩) (Nat.le_refl _) _⟩
  unfold dg at r2 all
  generalize (V.setCell ⟨w.heap.size + 1, k, none⟩ (.int .i64 (p / pr (zs.drop (k + 1)) % nth zs k))).setCell ⟨w.heap.size, 0, none⟩ (.int .i64 (p / pr (zs.drop k))) = U at *
  have gd : U.grownBy U.drew none := ⟨rfl, rfl, rfl, Nat.le_refl _, fun _ _ _ => rfl⟩
  exact ⟨r2.kept gd (by simp) (by simp), fun W' hg => (all.kept gd (by simp)).kept hg (fun j e => by cases e; exact hl1)⟩

theorem idx_start (w : World) (ao : Option Addr) (n cap : Nat) (zs : List Int) (p : Int) (hl : zs.length = n) (hr : n * 8 ≤ 140737488351232) :
    idxI w ao n cap zs p n ((((w.alloc (.cells #[.int .i64 p] 3)).alloc (.cells (madeCells #[.int .i64 0] n) 3)).alloc (.cells #[.slice (some ⟨w.heap.size + 1, 0, none⟩) n n] 28)).alloc (.cells #[.slice ao n cap] 28)) := by
  have b0 := Boxed.new w 3 (.int .i64 p)
  have e1 : (w.alloc (.cells #[.int .i64 p] 3)).heap.size = w.heap.size + 1 := by simp
  have b2 := Boxed.new ((w.alloc (.cells #[.int .i64 p] 3)).alloc (.cells (madeCells #[.int .i64 0] n) 3)) 28 (.slice (some ⟨w.heap.size + 1, 0, none⟩) n n)
  have b3 := Boxed.new (((w.alloc (.cells #[.int .i64 p] 3)).alloc (.cells (madeCells #[.int .i64 0] n) 3)).alloc (.cells #[.slice (some ⟨w.heap.size + 1, 0, none⟩) n n] 28)) 28 (.slice ao n cap)
  simp only [World.size_alloc] at b2 b3
  have hq : p / pr (zs.drop n) = p := by rw [List.drop_eq_nil_of_le (by omega)]; simp [pr]
  have hd : digK zs p n = List.replicate n 0 := by rw [← hl]; exact digK_zero
  refine ⟨by rw [hq]; exact ((b0.alloc _).alloc _).alloc _, b2.alloc _, ?_, b3, ((((Below.refl _ w).alloc (Nat.le_refl _) _).alloc (by simp) _).alloc (by simp; omega) _).alloc (by simp; omega) _⟩
  rw [hd]
  have hown : ((w.alloc (.cells #[.int .i64 p] 3)).alloc (.cells (madeCells #[.int .i64 0] n) 3)).ownsRow w.heap.size 3 1 (.slice (some ⟨w.heap.size + 1, 0, none⟩) n n) n ((List.replicate n 0).map (Value.int .i64)) := by
    refine ⟨by simp, .inr ⟨w.heap.size + 1, n, madeCells #[.int .i64 0] n, rfl, by omega, ?_, Nat.le_refl _, by unfold maxLen; omega, by simp [madeCells], ?_⟩⟩
    · have := World.alloc_heap_new (w.alloc (.cells #[.int .i64 p] 3)) (.cells (madeCells #[.int .i64 0] n) 3)
      rwa [e1] at this
    · rw [Nat.mul_one]
      apply List.ext_getElem
      · simp [madeCells]
      · intro i h1 h2; simp [madeCells, Nat.mod_one]
  obtain ⟨a, c, e, hf⟩ := Fr.mk' (zs := List.replicate n 0) (by simp) hr (fun k hk => by simp [nth, hk]) hown
  cases e
  exact (hf.kept (World.grownBy_alloc _ _ none) (by simp)).kept (World.grownBy_alloc _ _ none) (by simp)

set_option maxRecDepth 100000 in
set_option maxHeartbeats 4000000 in
theorem indices_any (ao : Option Addr) (n cap : Nat) (zs : List Int) (p : Int) (w : World) (h : Rd w ao n zs) (hp : allPos zs) (h0 : 0 ≤ p) (h4 : p ≤ 4096) :
    Calls Try.prog 26 #[.slice ao n cap, .int .i64 p] w fun e w' => ∃ co c, e = .returned (.slice co n c) ∧ Fr w' w.heap.size co n c (digs zs p) ∧ Below w.heap.size w w' := by
  have hroom := h.room
  have HL : Hid (zs.length = n) := h.len
  have st := idx_start w ao n cap zs p h.len h.room
  refine (callsIn_wide (n := 9)).1 ?_
  refine callsIn_of_wp_marks Try.func26 rfl trivial ?_ rfl
  simp only [Try.ntmps26, List.size_toArray, List.length_cons, List.length_nil, Nat.reduceAdd, Nat.reduceSub, Array.replicate_succ, Array.replicate_zero, List.push_toArray, List.append_toArray, List.nil_append, List.cons_append]
  have hmk := run_make_row' (P := Try.prog) 28 3 (.int .i64 0) 8 Try.underlying28 info3 rfl .i64 .i64 n (by omega) (by omega)
  gi_wp2_with (refine ⟨trivial, ?_⟩; gi_at_call 37; refine (backward_any _ _ _ _ _).mono ?_; rintro e w' ⟨rfl, rfl⟩)
  have hsz : ((((w.alloc (.cells #[.int .i64 p] 3)).alloc (.cells (madeCells #[.int .i64 0] n) 3)).alloc (.cells #[.slice (some ⟨w.heap.size + 1, 0, none⟩) n n] 28)).alloc (.cells #[.slice ao n cap] 28)).heap.size = w.heap.size + 4 := by simp
  clear hmk
  generalize ((((w.alloc (.cells #[.int .i64 p] 3)).alloc (.cells (madeCells #[.int .i64 0] n) 3)).alloc (.cells #[.slice (some ⟨w.heap.size + 1, 0, none⟩) n n] 28)).alloc (.cells #[.slice ao n cap] 28)) = W0 at *
  refine range_over (gf := 38) (lb := #[.pointer (some ⟨w.heap.size + 1 + 1 + 1, 0, none⟩)]) rfl (enters_of Try.func38 (by kernel_rfl) rfl) (idxI w ao n cap zs p 0) (fun _ _ => False) ?it ?done ?stop
  case stop => exact fun _ _ _ h => h.elim
  case done =>
    intro W hD ⟨h1, h2, h3, h4, h5⟩
    have c2 := h2.cell
    gi_wp2
    refine ⟨by simp, .inl ⟨_, _, rfl, run_takeDeferred hD, ?_⟩⟩
    have hi : idxI w ao n cap zs p 0 (W.putObj W0.heap.size (.deferred none)) := idxI.kept ⟨h1, h2, h3, h4, h5⟩ (grownBy_putObj' W _ _) (fun l e => by cases e; omega)
    exact ⟨_, results_tmp rfl _ _ _, _, _, rfl, hi.2.2.1, hi.2.2.2.2⟩
  case it =>
    intro L l W eT eP eA eB eO el hr hb hs
    have hl1 : w.heap.size + 4 ≤ l := by omega
    have hl2 : ∀ k, some l = some k → w.heap.size + 4 ≤ k := fun k e => by cases e; exact hl1
    have hown : w.heap.size + 4 ≤ L.own := by omega
    have st1 : idxI w ao n cap zs p n W := st.kept (grown_of_below hb) (by simp)
    clear el hs hb st eO
    refine (backward1_any 8 l _ (by omega) ao n cap zs hroom (fun k W => L.is .ready none l W ∧ idxI w ao n cap zs p k W) ?hJ ?hY W ⟨hr, st1⟩).mono ?_
    case hJ =>
      rintro k W1 ⟨_, _, _, _, hb3, hbe⟩
      exact ⟨hb3.cell, h.below hbe (Nat.le_refl _)⟩
    case hY =>
      rintro k W1 hk ⟨hr1, hi1⟩
      clear hr st1 W
      refine YieldAt.mono (yield_round (K := idxI w ao n cap zs p k) (X := fun _ _ => False) eT eP eA eB hr1 rfl ?_) ?_
      · have hl := HL.out
        have hnum := h.num k hk
        have hpk := hp k (by omega)
        have hqb := quo_bd (zs := zs) (p := p) (m := k + 1) (by omega) hp h0
        have hdb := dg_bd (zs := zs) (p := p) (m := k) (by omega) hp
        unfold dg at hdb
        clear eT eP eA eB
        gi_wp2
        refine ⟨hr1, fun W2 hr2 hg2 => ?_⟩
        have hi2 := hi1.kept hg2 hl2
        clear hg2 hi1 hr1
        have hi3 := hi2
        obtain ⟨b1, b2, b3, b4, b5⟩ := hi2
        have c1 := b1.cell
        have z1 := b1.frozen
        have c2 := b2.cell
        obtain ⟨g, e, _, _, hc3, hz3⟩ := b3.head (by omega)
        cases e
        have c3 := hc3 k hk
        have z3 := hz3 k
        clear hc3 hz3 b1 b2 b3 b4 b5
        have hmix : Try.prog.follows .mixedOrders = true := by kernel_rfl
        have hnz : ¬ nth zs k = 0 := by omega
        gi_wp2
        gi_region_with_o (fail)
        all_goals gi_wp2
        all_goals exact idxI.step hi3 hl hk hp h0 h4 hnum.2 hr2 hl1 hown
      · rintro e W2 (⟨rfl, h1, h2⟩ | ⟨_, c, _, h⟩)
        · exact ⟨rfl, h1, h2⟩
        · exact h.elim
    · rintro e W1 ⟨hv, hr1, hi1⟩
      exact ⟨hv, .inl ⟨hr1, fun W2 hg => hi1.kept hg hl2⟩⟩
end Go.Proofs.Ytdeglhifemmknaa
