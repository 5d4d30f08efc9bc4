
/- Contract of package mold: axesOf. -/

import Derived.Test.YtldhochafkcpiaaGreatMF
import Derived.Test.YtldhochafkcpiaaGreatMR


namespace Go.Proofs.YtldhochafkcpiaaGreat

open Go.RowKit Go.Shelf Go.Deep

attribute [local go_sem] Oper.semAt_some

set_option linter.unusedVariables false

theorem infoX : (Tryz.prog.info? 89).map (fun i => (i.zero, i.size, i.bytes)) = some (some (.agg #[.int .i64 0, .int .i64 0, .int .i64 0, .nilFunc]), 4, 32) := by kernel_rfl
theorem run_makeX (w : World) (m : Nat) (hm : m ≤ 5000) : (Instr.makeSlice 91 (.int .i64 (m : Nat)) (.int .i64 (m : Nat))).run Tryz.prog w = .ok (.slice (some ⟨w.heap.size, 0, none⟩) m m) (w.alloc (.cells (madeCells #[.int .i64 0, .int .i64 0, .int .i64 0, .nilFunc] (m * 4)) 89)) := by
  obtain ⟨i0, hi, hz0, hz1, hz2⟩ := info_parts infoX
  have := run_make (P := Tryz.prog) w 91 89 i0 _ Tryz.underlying91 hi hz0 .i64 .i64 (m : Int) (m : Int) (by omega) (Int.le_refl _) (by rw [hz2]; omega) (by omega)
  simpa [hz1, Value.cells] using this
theorem axi_start (w : World) (so : Option Addr) (n sc : Nat) (s : List Int) (hl : s.length = n) :
    AxI w so n sc s n ((((w.alloc (.cells (madeCells #[.int .i64 0, .int .i64 0, .int .i64 0, .nilFunc] (n * 4)) 89)).alloc (.cells #[.slice (some ⟨w.heap.size, 0, none⟩) n n] 91)).alloc (.cells #[.int .i64 1] 3)).alloc (.cells #[.slice so n sc] 23)) := by
  obtain ⟨cur, hcur⟩ := arr_list (madeCells #[.int .i64 0, .int .i64 0, .int .i64 0, .nilFunc] (n * 4))
  have hsz := size_madeCells #[.int .i64 0, .int .i64 0, .int .i64 0, .nilFunc] (n * 4)
  have b0 := allocNew w (.cells (madeCells #[.int .i64 0, .int .i64 0, .int .i64 0, .nilFunc] (n * 4)) 89)
  rw [hcur] at hsz b0 ⊢
  have b1 := Boxed.new (w.alloc (.cells cur.toArray 89)) 91 (.slice (some ⟨w.heap.size, 0, none⟩) n n)
  have b2 := Boxed.new ((w.alloc (.cells cur.toArray 89)).alloc (.cells #[.slice (some ⟨w.heap.size, 0, none⟩) n n] 91)) 3 (.int .i64 1)
  have b3 := Boxed.new (((w.alloc (.cells cur.toArray 89)).alloc (.cells #[.slice (some ⟨w.heap.size, 0, none⟩) n n] 91)).alloc (.cells #[.int .i64 1] 3)) 23 (.slice so n sc)
  simp only [World.size_alloc] at b1 b2 b3
  have hp : pr (s.drop n) = 1 := by rw [List.drop_eq_nil_of_le (by omega)]; rfl
  have k1 := box_below (w.alloc (.cells cur.toArray 89)) (.cells #[.slice (some ⟨w.heap.size, 0, none⟩) n n] 91)
  have k2 := box_below ((w.alloc (.cells cur.toArray 89)).alloc (.cells #[.slice (some ⟨w.heap.size, 0, none⟩) n n] 91)) (.cells #[.int .i64 1] 3)
  have k3 := box_below (((w.alloc (.cells cur.toArray 89)).alloc (.cells #[.slice (some ⟨w.heap.size, 0, none⟩) n n] 91)).alloc (.cells #[.int .i64 1] 3)) (.cells #[.slice so n sc] 23)
  refine ⟨(b1.alloc _).alloc _, by rw [hp]; exact b2.alloc _, b3, ⟨cur, ?_, by simpa using hsz, fun j h1 h2 => by omega⟩, ((((Below.refl _ w).alloc (Nat.le_refl _) _).alloc (by simp) _).alloc (by simp; omega) _).alloc (by simp; omega) _⟩
  exact (k3.block _ (by simp; omega)).trans ((k2.block _ (by simp; omega)).trans ((k1.block _ (by simp)).trans b0))

set_option linter.unusedSimpArgs false in
set_option maxRecDepth 100000 in
set_option maxHeartbeats 4000000 in
theorem axesOf_any (so : Option Addr) (n sc : Nat) (s : List Int) (w : World) (h : Rd w so n s) (hn : n ≤ 5000) (h0 : ∀ k, k < n → 0 ≤ nth s k ∧ nth s k ≤ 4096) (h1 : ∀ k, k ≤ n → 0 ≤ pr (s.drop k) ∧ pr (s.drop k) ≤ 4096) :
    Calls Tryz.prog 66 #[.slice so n sc] w fun e w' => e = .returned (.slice (some ⟨w.heap.size, 0, none⟩) n n) ∧ Axs w' w.heap.size n (axsOf s) ∧ Below w.heap.size w w' := by
  have hroom := h.room
  have HL : Hid (s.length = n) := h.len
  have H0 : Hid (∀ k, k < n → 0 ≤ nth s k ∧ nth s k ≤ 4096) := h0
  have H1 : Hid (∀ k, k ≤ n → 0 ≤ pr (s.drop k) ∧ pr (s.drop k) ≤ 4096) := h1
  have st := axi_start w so n sc s h.len
  clear h0 h1
  refine (callsIn_wide (n := 9)).1 ?_
  refine callsIn_of_wp_marks Tryz.func66 rfl trivial ?_ rfl
  simp only [Tryz.ntmps66, List.size_toArray, List.length_cons, List.length_nil, Nat.reduceAdd, Nat.reduceSub, Array.replicate_succ, Array.replicate_zero, List.push_toArray, List.append_toArray, List.nil_append, List.cons_append]
  have hmk := fun X => run_makeX X n hn
  gi_wp2_with (refine ⟨trivial, ?_⟩; gi_at_call 92; refine (backward_any _ _ _ _ _).mono ?_; rintro e w' ⟨rfl, rfl⟩)
  have hsz : ((((w.alloc (.cells (madeCells #[.int .i64 0, .int .i64 0, .int .i64 0, .nilFunc] (n * 4)) 89)).alloc (.cells #[.slice (some ⟨w.heap.size, 0, none⟩) n n] 91)).alloc (.cells #[.int .i64 1] 3)).alloc (.cells #[.slice so n sc] 23)).heap.size = w.heap.size + 4 := by simp
  clear hmk
  generalize ((((w.alloc (.cells (madeCells #[.int .i64 0, .int .i64 0, .int .i64 0, .nilFunc] (n * 4)) 89)).alloc (.cells #[.slice (some ⟨w.heap.size, 0, none⟩) n n] 91)).alloc (.cells #[.int .i64 1] 3)).alloc (.cells #[.slice so n sc] 23)) = W0 at *
  refine range_over (gf := 108) (lb := #[.pointer (some ⟨w.heap.size + 1 + 1 + 1, 0, none⟩)]) rfl (enters_of Tryz.func108 (by kernel_rfl) rfl) (AxI w so n sc s 0) (fun _ _ => False) ?it ?done ?stop
  case stop => exact fun _ _ _ h => h.elim
  case done =>
    intro W hD hI
    have c2 := hI.ax.cell
    gi_wp2
    refine ⟨by simp, .inl ⟨_, _, rfl, run_takeDeferred hD, ?_⟩⟩
    have hg := grownBy_putObj' W W0.heap.size (.deferred none)
    obtain ⟨cur, r1, r2, r3⟩ := hI.row
    refine ⟨_, results_tmp rfl _ _ _, rfl, ⟨by rw [axsOf_len]; exact HL.out, cur, (hg.block _ (Array.getElem?_eq_some_iff.1 r1).1 (some_ne (by omega))).trans r1, by omega, fun j hj => ?_⟩, hI.bel.grown hg hI.bel.size (fun k e => by cases e; omega)⟩
    refine ((r3 j (Nat.zero_le _) hj).keepC (fun b v hv _ => hg.block b (World.block_lt_of_cell? W _ hv) (fun e => ?_))).weak (fun b hb => by omega)
    cases e
    simp [World.cell?, hD] at hv
  case it =>
    intro L l W eT eP eA eB eO el hr hb hs
    have hl1 : w.heap.size + 4 ≤ l := by omega
    have hown : w.heap.size + 4 ≤ L.own := by omega
    have st1 : AxI w so n sc s n W := st.below (hb.mono (by omega))
    clear el hs hb st eO
    refine (backward1_any 8 l _ (by omega) so n sc s hroom (fun k W => L.is .ready none l W ∧ AxI w so n sc s k W) ?hJ ?hY W ⟨hr, st1⟩).mono ?_
    case hJ =>
      rintro k W1 ⟨_, hi⟩
      exact ⟨hi.li.cell, h.below hi.bel (Nat.le_refl _)⟩
    case hY =>
      rintro k W1 hk ⟨hr1, hi1⟩
      clear hr st1 W
      refine YieldAt.mono (yield_round (K := AxI w so n sc s k) (X := fun _ _ => False) eT eP eA eB hr1 rfl ?_) ?_
      · clear eT eP eA eB
        gi_wp2
        refine ⟨hr1, fun W2 hr2 hg2 => ?_⟩
        have hi2 := hi1.keptL hg2 hr1.1 hl1
        clear hg2 hi1 hr1
        have c1 := hi2.ax.cell
        have c2 := hi2.st.cell
        have z2 := hi2.st.frozen
        have hmix : Tryz.prog.follows .mixedOrders = true := by kernel_rfl
        have hsh := fun V => shifted_any 0 V
        obtain ⟨p1, p2⟩ := H1.out (k + 1) (by omega)
        obtain ⟨p3, p4⟩ := H0.out k hk
        have hmul : pr (s.drop (k + 1)) * nth s k = pr (s.drop k) := by
          rw [List.drop_eq_getElem_cons (show k < s.length by rw [HL.out]; exact hk), pr_cons, Int.mul_comm, nth_lt (show k < s.length by rw [HL.out]; exact hk)]
        have hpk := H1.out k (by omega)
        have hwm := wr (z := pr (s.drop (k + 1)) * nth s k) (by rw [hmul]; omega) (by rw [hmul]; omega)
        have HM : Hid (pr (s.drop (k + 1)) * nth s k = pr (s.drop k)) := hmul
        clear hmul hpk
        have hi3 := hi2.below (Below.refl _ W2).drew
        have hbk : (0 : Int) ≤ (k : Int) := by omega
        have hbk2 : (k : Int) < (n : Int) := by omega
        gi_wp2
        have fin : ∀ w3, w3.cell? ⟨W2.drew.heap.size, 0, none⟩ = some (.int .i64 0) → Below W2.drew.heap.size W2.drew w3 → L.is .busy none l ((put4 w3 w.heap.size k (.int .i64 (nth s k)) (.int .i64 (nth s k)) (.int .i64 (pr (s.drop (k + 1)))) (shV W2.drew.heap.size)).setCell ⟨w.heap.size + 1 + 1, 0, none⟩ (.int .i64 (pr (s.drop (k + 1)) * nth s k))) ∧ ∀ W', ((put4 w3 w.heap.size k (.int .i64 (nth s k)) (.int .i64 (nth s k)) (.int .i64 (pr (s.drop (k + 1)))) (shV W2.drew.heap.size)).setCell ⟨w.heap.size + 1 + 1, 0, none⟩ (.int .i64 (pr (s.drop (k + 1)) * nth s k))).grownBy W' (some l) → AxI w so n sc s k W' := fun w3 hc3 b3 => by
          have hlw : l < W2.heap.size := (Array.getElem?_eq_some_iff.1 hr2.1).1
          have hi4 := hi3.below b3
          have st4 := hi4.step HL.out hk ⟨p3, p4⟩ ⟨p1, p2⟩ (gb := W2.drew.heap.size) (by show w.heap.size + 4 ≤ W2.heap.size; omega) hc3 (.int .i64 (pr (s.drop (k + 1)) * nth s k)) (by rw [HM.out])
          have r4 := (((hr2.below (Below.refl _ W2).drew (Nat.le_refl _)).below b3 (Nat.le_refl _)).kept (put4_grown w3 w.heap.size k (.int .i64 (nth s k)) (.int .i64 (nth s k)) (.int .i64 (pr (s.drop (k + 1)))) (shV W2.drew.heap.size)) (some_ne (by omega)) (some_ne (by omega))).kept (grownBy_setCell' _ (w.heap.size + 1 + 1) (.int .i64 (pr (s.drop (k + 1)) * nth s k))) (some_ne (by omega)) (some_ne (by omega))
          exact ⟨r4, fun W' hg => st4.keptL hg r4.1 hl1⟩
        clear hr2 HM HL H0 H1 h hroom
        refine wp_roundC (by kernel_rfl) (by kernel_rfl) ?_
        refine wpAnyIn_take (i := 1) (v := ?_) rfl rfl (by kernel_rfl) (by kernel_rfl) (by kernel_rfl) (fun _ _ _ h => h) ⟨Or.inl ⟨by rfl, ?_⟩, fun _ => rfl⟩ ?_
        rotate_left
        · (intro V; go_simp; (try with_reducible rfl))
        (try simp only [Act.put, List.setIfInBounds_toArray, List.set_cons_zero, List.set_cons_succ])
        refine wpAnyIn_take (i := 2) (v := ?_) rfl rfl (by kernel_rfl) (by kernel_rfl) (by kernel_rfl) (fun _ _ _ h => h) ⟨Or.inl ⟨by rfl, ?_⟩, fun _ => rfl⟩ ?_
        rotate_left
        · (intro V; go_simp; (try with_reducible rfl))
        (try simp only [Act.put, List.setIfInBounds_toArray, List.set_cons_zero, List.set_cons_succ])
        refine wpAnyIn_take (i := 3) (v := ?_) rfl rfl (by kernel_rfl) (by kernel_rfl) (by kernel_rfl) (fun _ _ _ h => h) ⟨Or.inl ⟨by rfl, ?_⟩, fun _ => rfl⟩ ?_
        rotate_left
        · (intro V; go_simp; (try with_reducible rfl))
        (try simp only [Act.put, List.setIfInBounds_toArray, List.set_cons_zero, List.set_cons_succ])
        refine wpAnyIn_ready (rs := [0, 4, 5]) (by kernel_rfl) (by simp) ?_
        refine AllReadyIn.cons rfl (fun K hK => ?_) ?_
        · go_simp
          refine hK _ _ ?_
          clear hK K
          (try simp only [Act.put, List.setIfInBounds_toArray, List.set_cons_zero, List.set_cons_succ])
          refine wpAnyIn_ready (rs := [4, 5]) (by kernel_rfl) (by simp) ?_
          refine AllReadyIn.cons rfl (fun K hK => ?_) ?_
          · go_simp
            refine hK _ _ ?_
            clear hK K
            (try simp only [Act.put, List.setIfInBounds_toArray, List.set_cons_zero, List.set_cons_succ])
            refine wpAnyIn_ready (rs := [5]) (by kernel_rfl) (by simp) ?_
            refine AllReadyIn.cons rfl (fun K hK => ?_) ?_
            · go_simp
              refine ⟨trivial, ?_⟩
              gi_at_call 91
              refine (callsIn_wide.2 (hsh _)).mono ?_
              rintro e w3 ⟨rfl, hc3, b3⟩
              have hi4 := hi3.below b3; have d1 := hi4.ax.cell; have d2 := hi4.st.cell; have e2 := hi4.st.frozen; obtain ⟨cur, r1, r2, r3⟩ := hi4.row; obtain ⟨s0, s1, s2, s3, y0, y1, y2, y3, f0, f1, f2, f3⟩ := slot4 r1 (Nat.le_of_eq r2.symm) hk; clear r3 r1 r2; unfold shV
              refine hK _ _ ?_
              clear hK K
              (try simp only [Act.put, List.setIfInBounds_toArray, List.set_cons_zero, List.set_cons_succ])
              refine wpAnyIn_take (i := 6) (v := ?_) rfl rfl (by kernel_rfl) (by kernel_rfl) (by kernel_rfl) (fun _ _ _ h => h) ⟨Or.inl ⟨by rfl, ?_⟩, fun _ => rfl⟩ ?_
              rotate_left
              · (intro V; go_simp; (try with_reducible rfl))
              (try simp only [Act.put, List.setIfInBounds_toArray, List.set_cons_zero, List.set_cons_succ])
              refine wpAnyIn_take (i := 7) (v := ?_) rfl rfl (by kernel_rfl) (by kernel_rfl) (by kernel_rfl) (fun _ _ _ h => h) ⟨Or.inl ⟨by rfl, ?_⟩, fun _ => rfl⟩ ?_
              rotate_left
              · (intro V; go_simp; (try with_reducible rfl))
              (try simp only [Act.put, List.setIfInBounds_toArray, List.set_cons_zero, List.set_cons_succ])
              refine wpAnyIn_ready (rs := [8]) (by kernel_rfl) (by simp) ?_
              refine AllReadyIn.cons rfl (fun K hK => ?_) ?_
              · go_simp
                refine hK _ _ ?_
                clear hK K
                (try simp only [Act.put, List.setIfInBounds_toArray, List.set_cons_zero, List.set_cons_succ])
                refine wpAnyIn_done (by kernel_rfl) ?_ _
                gi_wp2
                exact fin _ hc3 b3
              exact AllReadyIn.nil
            exact AllReadyIn.nil
          refine AllReadyIn.cons rfl (fun K hK => ?_) ?_
          · go_simp
            refine ⟨trivial, ?_⟩
            gi_at_call 91
            refine (callsIn_wide.2 (hsh _)).mono ?_
            rintro e w3 ⟨rfl, hc3, b3⟩
            have hi4 := hi3.below b3; have d1 := hi4.ax.cell; have d2 := hi4.st.cell; have e2 := hi4.st.frozen; obtain ⟨cur, r1, r2, r3⟩ := hi4.row; obtain ⟨s0, s1, s2, s3, y0, y1, y2, y3, f0, f1, f2, f3⟩ := slot4 r1 (Nat.le_of_eq r2.symm) hk; clear r3 r1 r2; unfold shV
            refine hK _ _ ?_
            clear hK K
            (try simp only [Act.put, List.setIfInBounds_toArray, List.set_cons_zero, List.set_cons_succ])
            refine wpAnyIn_ready (rs := [4]) (by kernel_rfl) (by simp) ?_
            refine AllReadyIn.cons rfl (fun K hK => ?_) ?_
            · go_simp
              refine hK _ _ ?_
              clear hK K
              (try simp only [Act.put, List.setIfInBounds_toArray, List.set_cons_zero, List.set_cons_succ])
              refine wpAnyIn_take (i := 6) (v := ?_) rfl rfl (by kernel_rfl) (by kernel_rfl) (by kernel_rfl) (fun _ _ _ h => h) ⟨Or.inl ⟨by rfl, ?_⟩, fun _ => rfl⟩ ?_
              rotate_left
              · (intro V; go_simp; (try with_reducible rfl))
              (try simp only [Act.put, List.setIfInBounds_toArray, List.set_cons_zero, List.set_cons_succ])
              refine wpAnyIn_take (i := 7) (v := ?_) rfl rfl (by kernel_rfl) (by kernel_rfl) (by kernel_rfl) (fun _ _ _ h => h) ⟨Or.inl ⟨by rfl, ?_⟩, fun _ => rfl⟩ ?_
              rotate_left
              · (intro V; go_simp; (try with_reducible rfl))
              (try simp only [Act.put, List.setIfInBounds_toArray, List.set_cons_zero, List.set_cons_succ])
              refine wpAnyIn_ready (rs := [8]) (by kernel_rfl) (by simp) ?_
              refine AllReadyIn.cons rfl (fun K hK => ?_) ?_
              · go_simp
                refine hK _ _ ?_
                clear hK K
                (try simp only [Act.put, List.setIfInBounds_toArray, List.set_cons_zero, List.set_cons_succ])
                refine wpAnyIn_done (by kernel_rfl) ?_ _
                gi_wp2
                exact fin _ hc3 b3
              exact AllReadyIn.nil
            exact AllReadyIn.nil
          exact AllReadyIn.nil
        refine AllReadyIn.cons rfl (fun K hK => ?_) ?_
        · go_simp
          refine hK _ _ ?_
          clear hK K
          (try simp only [Act.put, List.setIfInBounds_toArray, List.set_cons_zero, List.set_cons_succ])
          refine wpAnyIn_ready (rs := [0, 5]) (by kernel_rfl) (by simp) ?_
          refine AllReadyIn.cons rfl (fun K hK => ?_) ?_
          · go_simp
            refine hK _ _ ?_
            clear hK K
            (try simp only [Act.put, List.setIfInBounds_toArray, List.set_cons_zero, List.set_cons_succ])
            refine wpAnyIn_ready (rs := [5]) (by kernel_rfl) (by simp) ?_
            refine AllReadyIn.cons rfl (fun K hK => ?_) ?_
            · go_simp
              refine ⟨trivial, ?_⟩
              gi_at_call 91
              refine (callsIn_wide.2 (hsh _)).mono ?_
              rintro e w3 ⟨rfl, hc3, b3⟩
              have hi4 := hi3.below b3; have d1 := hi4.ax.cell; have d2 := hi4.st.cell; have e2 := hi4.st.frozen; obtain ⟨cur, r1, r2, r3⟩ := hi4.row; obtain ⟨s0, s1, s2, s3, y0, y1, y2, y3, f0, f1, f2, f3⟩ := slot4 r1 (Nat.le_of_eq r2.symm) hk; clear r3 r1 r2; unfold shV
              refine hK _ _ ?_
              clear hK K
              (try simp only [Act.put, List.setIfInBounds_toArray, List.set_cons_zero, List.set_cons_succ])
              refine wpAnyIn_take (i := 6) (v := ?_) rfl rfl (by kernel_rfl) (by kernel_rfl) (by kernel_rfl) (fun _ _ _ h => h) ⟨Or.inl ⟨by rfl, ?_⟩, fun _ => rfl⟩ ?_
              rotate_left
              · (intro V; go_simp; (try with_reducible rfl))
              (try simp only [Act.put, List.setIfInBounds_toArray, List.set_cons_zero, List.set_cons_succ])
              refine wpAnyIn_take (i := 7) (v := ?_) rfl rfl (by kernel_rfl) (by kernel_rfl) (by kernel_rfl) (fun _ _ _ h => h) ⟨Or.inl ⟨by rfl, ?_⟩, fun _ => rfl⟩ ?_
              rotate_left
              · (intro V; go_simp; (try with_reducible rfl))
              (try simp only [Act.put, List.setIfInBounds_toArray, List.set_cons_zero, List.set_cons_succ])
              refine wpAnyIn_ready (rs := [8]) (by kernel_rfl) (by simp) ?_
              refine AllReadyIn.cons rfl (fun K hK => ?_) ?_
              · go_simp
                refine hK _ _ ?_
                clear hK K
                (try simp only [Act.put, List.setIfInBounds_toArray, List.set_cons_zero, List.set_cons_succ])
                refine wpAnyIn_done (by kernel_rfl) ?_ _
                gi_wp2
                exact fin _ hc3 b3
              exact AllReadyIn.nil
            exact AllReadyIn.nil
          refine AllReadyIn.cons rfl (fun K hK => ?_) ?_
          · go_simp
            refine ⟨trivial, ?_⟩
            gi_at_call 91
            refine (callsIn_wide.2 (hsh _)).mono ?_
            rintro e w3 ⟨rfl, hc3, b3⟩
            have hi4 := hi3.below b3; have d1 := hi4.ax.cell; have d2 := hi4.st.cell; have e2 := hi4.st.frozen; obtain ⟨cur, r1, r2, r3⟩ := hi4.row; obtain ⟨s0, s1, s2, s3, y0, y1, y2, y3, f0, f1, f2, f3⟩ := slot4 r1 (Nat.le_of_eq r2.symm) hk; clear r3 r1 r2; unfold shV
            refine hK _ _ ?_
            clear hK K
            (try simp only [Act.put, List.setIfInBounds_toArray, List.set_cons_zero, List.set_cons_succ])
            refine wpAnyIn_take (i := 6) (v := ?_) rfl rfl (by kernel_rfl) (by kernel_rfl) (by kernel_rfl) (fun _ _ _ h => h) ⟨Or.inl ⟨by rfl, ?_⟩, fun _ => rfl⟩ ?_
            rotate_left
            · (intro V; go_simp; (try with_reducible rfl))
            (try simp only [Act.put, List.setIfInBounds_toArray, List.set_cons_zero, List.set_cons_succ])
            refine wpAnyIn_ready (rs := [0]) (by kernel_rfl) (by simp) ?_
            refine AllReadyIn.cons rfl (fun K hK => ?_) ?_
            · go_simp
              refine hK _ _ ?_
              clear hK K
              (try simp only [Act.put, List.setIfInBounds_toArray, List.set_cons_zero, List.set_cons_succ])
              refine wpAnyIn_take (i := 7) (v := ?_) rfl rfl (by kernel_rfl) (by kernel_rfl) (by kernel_rfl) (fun _ _ _ h => h) ⟨Or.inl ⟨by rfl, ?_⟩, fun _ => rfl⟩ ?_
              rotate_left
              · (intro V; go_simp; (try with_reducible rfl))
              (try simp only [Act.put, List.setIfInBounds_toArray, List.set_cons_zero, List.set_cons_succ])
              refine wpAnyIn_ready (rs := [8]) (by kernel_rfl) (by simp) ?_
              refine AllReadyIn.cons rfl (fun K hK => ?_) ?_
              · go_simp
                refine hK _ _ ?_
                clear hK K
                (try simp only [Act.put, List.setIfInBounds_toArray, List.set_cons_zero, List.set_cons_succ])
                refine wpAnyIn_done (by kernel_rfl) ?_ _
                gi_wp2
                exact fin _ hc3 b3
              exact AllReadyIn.nil
            exact AllReadyIn.nil
          exact AllReadyIn.nil
        refine AllReadyIn.cons rfl (fun K hK => ?_) ?_
        · go_simp
          refine ⟨trivial, ?_⟩
          gi_at_call 91
          refine (callsIn_wide.2 (hsh _)).mono ?_
          rintro e w3 ⟨rfl, hc3, b3⟩
          have hi4 := hi3.below b3; have d1 := hi4.ax.cell; have d2 := hi4.st.cell; have e2 := hi4.st.frozen; obtain ⟨cur, r1, r2, r3⟩ := hi4.row; obtain ⟨s0, s1, s2, s3, y0, y1, y2, y3, f0, f1, f2, f3⟩ := slot4 r1 (Nat.le_of_eq r2.symm) hk; clear r3 r1 r2; unfold shV
          refine hK _ _ ?_
          clear hK K
          (try simp only [Act.put, List.setIfInBounds_toArray, List.set_cons_zero, List.set_cons_succ])
          refine wpAnyIn_ready (rs := [0, 4]) (by kernel_rfl) (by simp) ?_
          refine AllReadyIn.cons rfl (fun K hK => ?_) ?_
          · go_simp
            refine hK _ _ ?_
            clear hK K
            (try simp only [Act.put, List.setIfInBounds_toArray, List.set_cons_zero, List.set_cons_succ])
            refine wpAnyIn_ready (rs := [4]) (by kernel_rfl) (by simp) ?_
            refine AllReadyIn.cons rfl (fun K hK => ?_) ?_
            · go_simp
              refine hK _ _ ?_
              clear hK K
              (try simp only [Act.put, List.setIfInBounds_toArray, List.set_cons_zero, List.set_cons_succ])
              refine wpAnyIn_take (i := 6) (v := ?_) rfl rfl (by kernel_rfl) (by kernel_rfl) (by kernel_rfl) (fun _ _ _ h => h) ⟨Or.inl ⟨by rfl, ?_⟩, fun _ => rfl⟩ ?_
              rotate_left
              · (intro V; go_simp; (try with_reducible rfl))
              (try simp only [Act.put, List.setIfInBounds_toArray, List.set_cons_zero, List.set_cons_succ])
              refine wpAnyIn_take (i := 7) (v := ?_) rfl rfl (by kernel_rfl) (by kernel_rfl) (by kernel_rfl) (fun _ _ _ h => h) ⟨Or.inl ⟨by rfl, ?_⟩, fun _ => rfl⟩ ?_
              rotate_left
              · (intro V; go_simp; (try with_reducible rfl))
              (try simp only [Act.put, List.setIfInBounds_toArray, List.set_cons_zero, List.set_cons_succ])
              refine wpAnyIn_ready (rs := [8]) (by kernel_rfl) (by simp) ?_
              refine AllReadyIn.cons rfl (fun K hK => ?_) ?_
              · go_simp
                refine hK _ _ ?_
                clear hK K
                (try simp only [Act.put, List.setIfInBounds_toArray, List.set_cons_zero, List.set_cons_succ])
                refine wpAnyIn_done (by kernel_rfl) ?_ _
                gi_wp2
                exact fin _ hc3 b3
              exact AllReadyIn.nil
            exact AllReadyIn.nil
          refine AllReadyIn.cons rfl (fun K hK => ?_) ?_
          · go_simp
            refine hK _ _ ?_
            clear hK K
            (try simp only [Act.put, List.setIfInBounds_toArray, List.set_cons_zero, List.set_cons_succ])
            refine wpAnyIn_take (i := 6) (v := ?_) rfl rfl (by kernel_rfl) (by kernel_rfl) (by kernel_rfl) (fun _ _ _ h => h) ⟨Or.inl ⟨by rfl, ?_⟩, fun _ => rfl⟩ ?_
            rotate_left
            · (intro V; go_simp; (try with_reducible rfl))
            (try simp only [Act.put, List.setIfInBounds_toArray, List.set_cons_zero, List.set_cons_succ])
            refine wpAnyIn_ready (rs := [0]) (by kernel_rfl) (by simp) ?_
            refine AllReadyIn.cons rfl (fun K hK => ?_) ?_
            · go_simp
              refine hK _ _ ?_
              clear hK K
              (try simp only [Act.put, List.setIfInBounds_toArray, List.set_cons_zero, List.set_cons_succ])
              refine wpAnyIn_take (i := 7) (v := ?_) rfl rfl (by kernel_rfl) (by kernel_rfl) (by kernel_rfl) (fun _ _ _ h => h) ⟨Or.inl ⟨by rfl, ?_⟩, fun _ => rfl⟩ ?_
              rotate_left
              · (intro V; go_simp; (try with_reducible rfl))
              (try simp only [Act.put, List.setIfInBounds_toArray, List.set_cons_zero, List.set_cons_succ])
              refine wpAnyIn_ready (rs := [8]) (by kernel_rfl) (by simp) ?_
              refine AllReadyIn.cons rfl (fun K hK => ?_) ?_
              · go_simp
                refine hK _ _ ?_
                clear hK K
                (try simp only [Act.put, List.setIfInBounds_toArray, List.set_cons_zero, List.set_cons_succ])
                refine wpAnyIn_done (by kernel_rfl) ?_ _
                gi_wp2
                exact fin _ hc3 b3
              exact AllReadyIn.nil
            exact AllReadyIn.nil
          exact AllReadyIn.nil
        exact AllReadyIn.nil
      · rintro e W2 (⟨rfl, h1, h2⟩ | ⟨_, c, _, h⟩)
        · exact ⟨rfl, h1, h2⟩
        · exact h.elim
    · rintro e W1 ⟨hv, hr1, hi1⟩
      exact ⟨hv, .inl ⟨hr1, fun W2 hg => hi1.keptL hg hr1.1 hl1⟩⟩
end Go.Proofs.YtldhochafkcpiaaGreat
