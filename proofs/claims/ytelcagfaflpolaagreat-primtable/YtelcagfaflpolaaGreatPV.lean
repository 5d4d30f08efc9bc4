
/- PrimTable: the document's spellings and Info. -/

import Derived.Test.YtelcagfaflpolaaGreatPC
import Derived.Deep.DeepCutAuto
import Derived.Deep.RegionHeld3
import Derived.OrdersHeld




namespace Go.Proofs.YtelcagfaflpolaaGreat

open Go.RowKit

set_option linter.unusedVariables false

def splL : List Value := [.string ⟨#[43]⟩, .string ⟨#[45]⟩, .string ⟨#[42]⟩, .string ⟨#[37]⟩, .string ⟨#[124]⟩, .string ⟨#[60, 46]⟩, .string ⟨#[62, 46]⟩, .string ⟨#[60]⟩, .string ⟨#[62]⟩, .string ⟨#[61]⟩, .string ⟨#[126, 58]⟩, .string ⟨#[60, 58]⟩, .string ⟨#[62, 58]⟩, .string ⟨#[43, 46]⟩, .string ⟨#[42, 46]⟩, .string ⟨#[43, 58]⟩, .string ⟨#[42, 58]⟩, .string ⟨#[45, 46]⟩, .string ⟨#[45, 58]⟩, .string ⟨#[94]⟩, .string ⟨#[33]⟩, .string ⟨#[35]⟩, .string ⟨#[36]⟩, .string ⟨#[44]⟩, .string ⟨#[44, 46]⟩, .string ⟨#[44, 58]⟩, .string ⟨#[123]⟩, .string ⟨#[123, 46]⟩, .string ⟨#[125, 46]⟩, .string ⟨#[123, 58]⟩, .string ⟨#[125, 58]⟩, .string ⟨#[124, 46]⟩, .string ⟨#[124, 58]⟩, .string ⟨#[105, 46]⟩, .string ⟨#[101, 46]⟩, .string ⟨#[126, 46]⟩, .string ⟨#[47, 58]⟩, .string ⟨#[92, 58]⟩, .string ⟨#[35, 46]⟩, .string ⟨#[35, 58]⟩, .string ⟨#[91]⟩, .string ⟨#[93]⟩, .string ⟨#[73, 46]⟩]
theorem splL_at (l : List Value) (hl : l = splL) : ∀ k : Nat, k < 43 → l[k]? = some (.string (pS k)) := by
  subst hl
  intro k hk
  match k, hk with
  | 0, _ => rfl
  | 1, _ => rfl
  | 2, _ => rfl
  | 3, _ => rfl
  | 4, _ => rfl
  | 5, _ => rfl
  | 6, _ => rfl
  | 7, _ => rfl
  | 8, _ => rfl
  | 9, _ => rfl
  | 10, _ => rfl
  | 11, _ => rfl
  | 12, _ => rfl
  | 13, _ => rfl
  | 14, _ => rfl
  | 15, _ => rfl
  | 16, _ => rfl
  | 17, _ => rfl
  | 18, _ => rfl
  | 19, _ => rfl
  | 20, _ => rfl
  | 21, _ => rfl
  | 22, _ => rfl
  | 23, _ => rfl
  | 24, _ => rfl
  | 25, _ => rfl
  | 26, _ => rfl
  | 27, _ => rfl
  | 28, _ => rfl
  | 29, _ => rfl
  | 30, _ => rfl
  | 31, _ => rfl
  | 32, _ => rfl
  | 33, _ => rfl
  | 34, _ => rfl
  | 35, _ => rfl
  | 36, _ => rfl
  | 37, _ => rfl
  | 38, _ => rfl
  | 39, _ => rfl
  | 40, _ => rfl
  | 41, _ => rfl
  | 42, _ => rfl
  | _ + 43, h => exact absurd h (by omega)
set_option maxRecDepth 100000 in
set_option maxHeartbeats 4000000 in
theorem spl_any (w : World) : Calls Tryz.prog 9 #[] w fun e w' => e = .returned (.slice (some ⟨w.heap.size, 0, none⟩) 43 43) ∧ w' = w.alloc (.cells splL.toArray 9) := by
  go_enter Tryz.func9, Tryz.ntmps9
  go_wp2
  go_ret
  exact ⟨rfl, rfl⟩

theorem cell_alloc {V : World} {p : Addr} {v : Value} (o : Obj) (h : V.cell? p = some v) : (V.alloc o).cell? p = some v := ((box_below V o).cell (World.block_lt_of_cell? V _ h)).trans h
theorem bbB {W V : World} (o : Obj) (h : Below W.heap.size W V) : Below W.heap.size W (V.alloc o) := btw h (box_below _ _) h.size
theorem set_row9 {V : World} {p : Nat} {a0 a1 a2 a3 a4 a5 a6 a7 a8 : Value} {t : TypeId} (h : V.heap[p]? = some (.cells #[a0, a1, a2, a3, a4, a5, a6, a7, a8] t (0, 0))) (v0 v1 v2 v3 v4 v5 v6 v7 v8 : Value) :
    (((((((((V.setCell ⟨p, 0, none⟩ v0).setCell ⟨p, 1, none⟩ v1).setCell ⟨p, 2, none⟩ v2).setCell ⟨p, 3, none⟩ v3).setCell ⟨p, 4, none⟩ v4).setCell ⟨p, 5, none⟩ v5).setCell ⟨p, 6, none⟩ v6).setCell ⟨p, 7, none⟩ v7).setCell ⟨p, 8, none⟩ v8).heap[p]? = some (.cells #[v0, v1, v2, v3, v4, v5, v6, v7, v8] t (0, 0)) := by
  have s := fun {V : World} {cs : Array Value} (i : Nat) (v : Value) (h : V.heap[p]? = some (.cells cs t (0, 0))) => heap_setCell_same V p i cs t v h
  refine (s 8 v8 (s 7 v7 (s 6 v6 (s 5 v5 (s 4 v4 (s 3 v3 (s 2 v2 (s 1 v1 (s 0 v0 h))))))))).trans ?_
  simp only [List.setIfInBounds_toArray, List.set_cons_zero, List.set_cons_succ]
/-- A string lies in no box of a primitive's row, but at its first cell. -/
theorem ne_row {V : World} {g p k : Nat} {s : ByteArray} (h : V.cell? ⟨g, k, none⟩ = some (.string s)) (x : V.heap[p]? = some (.cells #[.string ⟨#[]⟩, .bool false, .bool false, .int .i64 0, .int .i64 0, .int .i64 0, .int .i64 0, .bool false, .bool false] 27 (0, 0))) (hs : s.size ≠ 0) : g ≠ p := by
  rintro rfl
  rw [cell_of_row V g k _ _ (0, 0) x] at h
  match k with
  | 0 => simp at h; subst h; exact hs rfl
  | 1 => simp at h
  | 2 => simp at h
  | 3 => simp at h
  | 4 => simp at h
  | 5 => simp at h
  | 6 => simp at h
  | 7 => simp at h
  | 8 => simp at h
  | n + 9 => simp at h
theorem cell_set9 {V : World} {g p k : Nat} {v : Value} (h : V.cell? ⟨g, k, none⟩ = some v) (ne : g ≠ p) {v0 v1 v2 v3 v4 v5 v6 v7 v8 : Value} :
    (((((((((V.setCell ⟨p, 0, none⟩ v0).setCell ⟨p, 1, none⟩ v1).setCell ⟨p, 2, none⟩ v2).setCell ⟨p, 3, none⟩ v3).setCell ⟨p, 4, none⟩ v4).setCell ⟨p, 5, none⟩ v5).setCell ⟨p, 6, none⟩ v6).setCell ⟨p, 7, none⟩ v7).setCell ⟨p, 8, none⟩ v8).cell? ⟨g, k, none⟩ = some v := by
  have s := fun {V : World} (i : Nat) (u : Value) (h : V.cell? ⟨g, k, none⟩ = some v) => (set1 V p i u).cell h (fun e => ne (by injection e))
  exact s 8 v8 (s 7 v7 (s 6 v6 (s 5 v5 (s 4 v4 (s 3 v3 (s 2 v2 (s 1 v1 (s 0 v0 h))))))))

theorem pS_some (k : Nat) (h : k < 43) : (pS k).size ≠ 0 := by
  revert h; revert k; decide
set_option linter.unusedSimpArgs false in
set_option maxRecDepth 20000 in
set_option maxHeartbeats 16000000 in
theorem rinfo_go (k : Nat) (hk : k < 43) (o1 o2 ra rb rc ei : Int) (eh cm mb db : Bool) (w : World) (h1 : decide (0 < o1) = mb) (h2 : decide (0 < o2) = db)
    (c1 : ∀ W, Calls Tryz.prog 28 #[.int .i64 ((k : Int) + 1), .int .i64 1] W fun e w' => e = .returned (.int .i64 o1) ∧ w' = W)
    (c2 : ∀ W, Calls Tryz.prog 28 #[.int .i64 ((k : Int) + 1), .int .i64 2] W fun e w' => e = .returned (.int .i64 o2) ∧ w' = W)
    (c3 : ∀ W, Calls Tryz.prog 29 #[.int .i64 ((k : Int) + 1)] W fun e w' => e = .returned (.agg #[.int .i64 ra, .int .i64 rb, .int .i64 rc]) ∧ w' = W.alloc (.cells #[.int .i64 ra, .int .i64 rb, .int .i64 rc] 25))
    (c4 : ∀ W, Calls Tryz.prog 30 #[.int .i64 ((k : Int) + 1)] W fun e w' => e = .returned (.bool cm) ∧ w' = W)
    (c5 : ∀ W, Calls Tryz.prog 31 #[.int .i64 ((k : Int) + 1)] W fun e w' => e = .returned (.tuple #[.int .i64 ei, .bool eh]) ∧ w' = W) :
    Calls Tryz.prog 11 #[.int .i64 ((k : Int) + 1)] w fun e w' => e = .returned (.tuple #[.agg #[.string (pS k), .bool mb, .bool db, .int .i64 (if mb then ra else 0), .int .i64 (if db then rb else 0), .int .i64 (if db then rc else 0), .int .i64 ei, .bool eh, .bool cm], .int .i64 0]) ∧ Below w.heap.size w w' := by
  have b0 := box_below w (.cells #[.string ⟨#[]⟩, .bool false, .bool false, .int .i64 0, .int .i64 0, .int .i64 0, .int .i64 0, .bool false, .bool false] 27)
  have n0 := allocNew w (.cells #[.string ⟨#[]⟩, .bool false, .bool false, .int .i64 0, .int .i64 0, .int .i64 0, .int .i64 0, .bool false, .bool false] 27)
  have q1 : decide ((k : Int) + 1 < 1) = false := by simp; omega
  have q2 : decide (43 < (k : Int) + 1) = false := by simp; omega
  have k43 : (k : Int) < 43 := by omega
  have hw1 : IntKind.i64.wrap (k : Int) = k := wrapIn _ (by omega)
  have cs := spl_any
  have ts := splL_at _ rfl k hk
  have hps := pS_some k hk
  generalize splL = SL at *
  have CC : ∀ (V W : World), Below (V.heap.size + 1) (V.alloc (.cells SL.toArray 9)) W → W.cell? ⟨V.heap.size, k, none⟩ = some (.string (pS k)) := fun V W b => (b.cell (p := ⟨V.heap.size, k, none⟩) (Nat.lt_succ_self _)).trans ((cell_of_row _ _ _ _ _ (0, 0) (allocNew V _)).trans (by simpa using ts))
  go_enter Tryz.func11, Tryz.ntmps11
  go_wp2
  obtain ⟨W0, hW0⟩ : ∃ W, W = w.alloc (.cells #[.string ⟨#[]⟩, .bool false, .bool false, .int .i64 0, .int .i64 0, .int .i64 0, .int .i64 0, .bool false, .bool false] 27) := ⟨_, rfl⟩
  rw [← hW0] at b0 n0 ⊢
  have gw : w.heap.size < W0.heap.size := (Array.getElem?_eq_some_iff.1 n0).1
  clear hW0
  go_cut [4] (fun a V => ∃ p, a = .pointer (some ⟨p, 0, none⟩) ∧ V.heap[p]? = some (.cells #[.string (pS k), .bool mb, .bool db, .int .i64 ra, .int .i64 rb, .int .i64 rc, .int .i64 0, .bool false, .bool cm] 27 (0, 0)) ∧ W0.heap.size ≤ p ∧ Below W0.heap.size W0 V)
  case first =>
    refine wp_region_any (by kernel_rfl) ?_
    refine wpAny_take (i := 1) (v := .int .i64 ((k : Int) + 1)) rfl (by kernel_rfl) (by kernel_rfl) (by kernel_rfl) (fun _ _ _ h => h) (Or.inl ⟨by rfl, by intro w; go_simp⟩) ?_
    conv => arg 7; simp [Act.put]
    refine wpAny_take (i := 5) (v := .int .i64 ((k : Int) + 1)) rfl (by kernel_rfl) (by kernel_rfl) (by kernel_rfl) (fun _ _ _ h => h) (Or.inl ⟨by rfl, by intro w; go_simp⟩) ?_
    conv => arg 7; simp [Act.put]
    refine wpAny_take (i := 8) (v := .int .i64 ((k : Int) + 1)) rfl (by kernel_rfl) (by kernel_rfl) (by kernel_rfl) (fun _ _ _ h => h) (Or.inl ⟨by rfl, by intro w; go_simp⟩) ?_
    conv => arg 7; simp [Act.put]
    refine wpAny_take (i := 11) (v := .int .i64 ((k : Int) + 1)) rfl (by kernel_rfl) (by kernel_rfl) (by kernel_rfl) (fun _ _ _ h => h) (Or.inl ⟨by rfl, by intro w; go_simp⟩) ?_
    conv => arg 7; simp [Act.put]
    refine wpAny_take (i := 13) (v := .int .i64 ((k : Int) + 1)) rfl (by kernel_rfl) (by kernel_rfl) (by kernel_rfl) (fun _ _ _ h => h) (Or.inl ⟨by rfl, by intro w; go_simp⟩) ?_
    conv => arg 7; simp [Act.put]
    refine wpAny_take (i := 2) (v := .int .i64 (k : Int)) rfl (by kernel_rfl) (by kernel_rfl) (by kernel_rfl) (fun _ _ _ h => h) (Or.inl ⟨by rfl, by intro w; go_simp⟩) ?_
    conv => arg 7; simp [Act.put]
    have B_VD : Below W0.heap.size W0 W0.drew := (Below.refl _ _).drew
    change wpAny _ _ _ _ _ _ _ W0.drew
    generalize W0.drew = VD at *
    refine wpAny_ready (rs := [0, 16]) (by kernel_rfl) (by simp) ?_
    refine AllReady.cons rfl (fun K hK => ?_) (AllReady.cons rfl (fun K hK => ?_) AllReady.nil)
    · go_simp
      go_at_call 9
      refine (cs _).mono ?_
      rintro e VV ⟨rfl, rfl⟩
      refine hK _ _ ?_
      clear hK K
      (try simp only [Act.put, List.setIfInBounds_toArray, List.set_cons_zero, List.set_cons_succ])
      have hHeld := CC VD _ (Below.refl _ _)
      have B_VA := bbB (.cells SL.toArray 9) B_VD
      have lg := (show W0.heap.size ≤ VD.heap.size from B_VD.size)
      have lv : VD.heap.size < (VD.alloc (.cells SL.toArray 9)).heap.size := by simp
      generalize VD.heap.size = gR at *
      generalize VD.alloc (.cells SL.toArray 9) = VA at *
      refine wpAny_of_held (S := fun V => V.cell? ⟨gR, k, none⟩ = some (.string (pS k))) _ _ _ _ ?_
      refine wpAnyH_take (i := 3) (v := ?_) rfl (by kernel_rfl) (by kernel_rfl) (by kernel_rfl) (fun _ _ _ h => h) (Or.inl ⟨by rfl, ?_⟩) (by assumption) ?_
      rotate_left
      · (intro V hSw; (try dsimp only at hSw); go_simp; (try with_reducible rfl))
      (try simp only [Act.put, List.setIfInBounds_toArray, List.set_cons_zero, List.set_cons_succ])
      refine wpAnyH_take (i := 4) (v := ?_) rfl (by kernel_rfl) (by kernel_rfl) (by kernel_rfl) (fun _ _ _ h => h) (Or.inl ⟨by rfl, ?_⟩) (by assumption) ?_
      rotate_left
      · (intro V hSw; (try dsimp only at hSw); go_simp; (try with_reducible rfl))
      (try simp only [Act.put, List.setIfInBounds_toArray, List.set_cons_zero, List.set_cons_succ])
      refine wpAnyH_ready (rs := [6, 16]) (by kernel_rfl) (by simp) ?_
      refine AllReadyH.cons rfl (fun K hK => ?_) ?_
      · go_simp
        go_at_call 28
        refine (c1 _).mono ?_
        rintro e VV ⟨rfl, hVV⟩
        rw [hVV]
        clear hVV VV
        refine hK.out _ _ hHeld (fun _ => ?_)
        clear hK K
        (try simp only [Act.put, List.setIfInBounds_toArray, List.set_cons_zero, List.set_cons_succ])
        refine wpAnyH_take (i := 7) (v := ?_) rfl (by kernel_rfl) (by kernel_rfl) (by kernel_rfl) (fun _ _ _ h => h) (Or.inl ⟨by rfl, ?_⟩) (by assumption) ?_
        rotate_left
        · (intro V hSw; (try dsimp only at hSw); go_simp; (try with_reducible rfl))
        (try simp only [Act.put, List.setIfInBounds_toArray, List.set_cons_zero, List.set_cons_succ])
        refine wpAnyH_ready (rs := [9, 16]) (by kernel_rfl) (by simp) ?_
        refine AllReadyH.cons rfl (fun K hK => ?_) ?_
        · go_simp
          go_at_call 28
          refine (c2 _).mono ?_
          rintro e VV ⟨rfl, hVV⟩
          rw [hVV]
          clear hVV VV
          refine hK.out _ _ hHeld (fun _ => ?_)
          clear hK K
          (try simp only [Act.put, List.setIfInBounds_toArray, List.set_cons_zero, List.set_cons_succ])
          refine wpAnyH_take (i := 10) (v := ?_) rfl (by kernel_rfl) (by kernel_rfl) (by kernel_rfl) (fun _ _ _ h => h) (Or.inl ⟨by rfl, ?_⟩) (by assumption) ?_
          rotate_left
          · (intro V hSw; (try dsimp only at hSw); go_simp; (try with_reducible rfl))
          (try simp only [Act.put, List.setIfInBounds_toArray, List.set_cons_zero, List.set_cons_succ])
          refine wpAnyH_ready (rs := [12, 16]) (by kernel_rfl) (by simp) ?_
          refine AllReadyH.cons rfl (fun K hK => ?_) ?_
          · go_simp
            go_at_call 29
            refine (c3 _).mono ?_
            rintro e VV ⟨rfl, rfl⟩
            refine hK.out _ _ (cell_alloc _ hHeld) (fun hHeld2 => ?_)
            clear hK K
            (try simp only [Act.put, List.setIfInBounds_toArray, List.set_cons_zero, List.set_cons_succ])
            have B_V1 := bbB (.cells #[.int .i64 ra, .int .i64 rb, .int .i64 rc] 25) B_VA
            clear hHeld
            have hHeld := hHeld2
            clear hHeld2
            generalize VA.alloc (.cells #[.int .i64 ra, .int .i64 rb, .int .i64 rc] 25) = V1 at *
            refine wpAnyH_ready (rs := [14, 16]) (by kernel_rfl) (by simp) ?_
            refine AllReadyH.cons rfl (fun K hK => ?_) ?_
            · go_simp
              go_at_call 30
              refine (c4 _).mono ?_
              rintro e VV ⟨rfl, hVV⟩
              rw [hVV]
              clear hVV VV
              refine hK.out _ _ hHeld (fun _ => ?_)
              clear hK K
              (try simp only [Act.put, List.setIfInBounds_toArray, List.set_cons_zero, List.set_cons_succ])
              refine wpAnyH_take (i := 15) (v := ?_) rfl (by kernel_rfl) (by kernel_rfl) (by kernel_rfl) (fun _ _ _ h => h) (Or.inl ⟨by rfl, ?_⟩) (by assumption) ?_
              rotate_left
              · (intro V hSw; (try dsimp only at hSw); go_simp; (try with_reducible rfl))
              (try simp only [Act.put, List.setIfInBounds_toArray, List.set_cons_zero, List.set_cons_succ])
              refine wpAnyH_ready (rs := [16]) (by kernel_rfl) (by simp) ?_
              refine AllReadyH.cons rfl (fun K hK => ?_) ?_
              · go_simp
                refine hK.out _ _ (cell_alloc _ hHeld) (fun hHeld2 => ?_)
                clear hK K
                (try simp only [Act.put, List.setIfInBounds_toArray, List.set_cons_zero, List.set_cons_succ])
                have B_V2 := bbB (.cells #[.string ⟨#[]⟩, .bool false, .bool false, .int .i64 0, .int .i64 0, .int .i64 0, .int .i64 0, .bool false, .bool false] 27) B_V1
                have X_V2 := allocNew V1 (.cells #[.string ⟨#[]⟩, .bool false, .bool false, .int .i64 0, .int .i64 0, .int .i64 0, .int .i64 0, .bool false, .bool false] 27)
                have L_V2 := (show W0.heap.size ≤ V1.heap.size from B_V1.size)
                generalize V1.heap.size = p2 at *
                clear hHeld
                have hHeld := hHeld2
                clear hHeld2
                generalize V1.alloc (.cells #[.string ⟨#[]⟩, .bool false, .bool false, .int .i64 0, .int .i64 0, .int .i64 0, .int .i64 0, .bool false, .bool false] 27) = V2 at *
                refine wpAnyH_ready (rs := [17]) (by kernel_rfl) (by simp) ?_
                refine AllReadyH.cons rfl (fun K hK => ?_) ?_
                · obtain ⟨⟨e0, e1, e2, e3, e4, e5, e6, e7, e8⟩, z0, z1, z2, z3, z4, z5, z6, z7, z8⟩ := bx9 X_V2
                  go_simp
                  refine hK.out _ _ (cell_set9 hHeld (ne_row hHeld X_V2 hps)) (fun _ => ?_)
                  clear hK K
                  (try simp only [Act.put, List.setIfInBounds_toArray, List.set_cons_zero, List.set_cons_succ])
                  refine wpAnyH_done (by kernel_rfl) ?_ _
                  go_wp2
                  go_meet
                  case rel => exact ⟨p2, rfl, set_row9 X_V2 _ _ _ _ _ _ _ _ _, L_V2, below_set9 _ _ _ _ _ _ _ _ _ B_V2 L_V2⟩
                exact AllReadyH.nil
              exact AllReadyH.nil
            refine AllReadyH.cons rfl (fun K hK => ?_) ?_
            · go_simp
              refine hK.out _ _ (cell_alloc _ hHeld) (fun hHeld2 => ?_)
              clear hK K
              (try simp only [Act.put, List.setIfInBounds_toArray, List.set_cons_zero, List.set_cons_succ])
              have B_V3 := bbB (.cells #[.string ⟨#[]⟩, .bool false, .bool false, .int .i64 0, .int .i64 0, .int .i64 0, .int .i64 0, .bool false, .bool false] 27) B_V1
              have X_V3 := allocNew V1 (.cells #[.string ⟨#[]⟩, .bool false, .bool false, .int .i64 0, .int .i64 0, .int .i64 0, .int .i64 0, .bool false, .bool false] 27)
              have L_V3 := (show W0.heap.size ≤ V1.heap.size from B_V1.size)
              generalize V1.heap.size = p3 at *
              clear hHeld
              have hHeld := hHeld2
              clear hHeld2
              generalize V1.alloc (.cells #[.string ⟨#[]⟩, .bool false, .bool false, .int .i64 0, .int .i64 0, .int .i64 0, .int .i64 0, .bool false, .bool false] 27) = V3 at *
              refine wpAnyH_ready (rs := [14]) (by kernel_rfl) (by simp) ?_
              refine AllReadyH.cons rfl (fun K hK => ?_) ?_
              · go_simp
                go_at_call 30
                refine (c4 _).mono ?_
                rintro e VV ⟨rfl, hVV⟩
                rw [hVV]
                clear hVV VV
                refine hK.out _ _ hHeld (fun _ => ?_)
                clear hK K
                (try simp only [Act.put, List.setIfInBounds_toArray, List.set_cons_zero, List.set_cons_succ])
                refine wpAnyH_take (i := 15) (v := ?_) rfl (by kernel_rfl) (by kernel_rfl) (by kernel_rfl) (fun _ _ _ h => h) (Or.inl ⟨by rfl, ?_⟩) (by assumption) ?_
                rotate_left
                · (intro V hSw; (try dsimp only at hSw); go_simp; (try with_reducible rfl))
                (try simp only [Act.put, List.setIfInBounds_toArray, List.set_cons_zero, List.set_cons_succ])
                refine wpAnyH_ready (rs := [17]) (by kernel_rfl) (by simp) ?_
                refine AllReadyH.cons rfl (fun K hK => ?_) ?_
                · obtain ⟨⟨e0, e1, e2, e3, e4, e5, e6, e7, e8⟩, z0, z1, z2, z3, z4, z5, z6, z7, z8⟩ := bx9 X_V3
                  go_simp
                  refine hK.out _ _ (cell_set9 hHeld (ne_row hHeld X_V3 hps)) (fun _ => ?_)
                  clear hK K
                  (try simp only [Act.put, List.setIfInBounds_toArray, List.set_cons_zero, List.set_cons_succ])
                  refine wpAnyH_done (by kernel_rfl) ?_ _
                  go_wp2
                  go_meet
                  case rel => exact ⟨p3, rfl, set_row9 X_V3 _ _ _ _ _ _ _ _ _, L_V3, below_set9 _ _ _ _ _ _ _ _ _ B_V3 L_V3⟩
                exact AllReadyH.nil
              exact AllReadyH.nil
            exact AllReadyH.nil
          refine AllReadyH.cons rfl (fun K hK => ?_) ?_
          · go_simp
            refine hK.out _ _ (cell_alloc _ hHeld) (fun hHeld2 => ?_)
            clear hK K
            (try simp only [Act.put, List.setIfInBounds_toArray, List.set_cons_zero, List.set_cons_succ])
            have B_V4 := bbB (.cells #[.string ⟨#[]⟩, .bool false, .bool false, .int .i64 0, .int .i64 0, .int .i64 0, .int .i64 0, .bool false, .bool false] 27) B_VA
            have X_V4 := allocNew VA (.cells #[.string ⟨#[]⟩, .bool false, .bool false, .int .i64 0, .int .i64 0, .int .i64 0, .int .i64 0, .bool false, .bool false] 27)
            have L_V4 := (show W0.heap.size ≤ VA.heap.size from B_VA.size)
            generalize VA.heap.size = p4 at *
            clear hHeld
            have hHeld := hHeld2
            clear hHeld2
            generalize VA.alloc (.cells #[.string ⟨#[]⟩, .bool false, .bool false, .int .i64 0, .int .i64 0, .int .i64 0, .int .i64 0, .bool false, .bool false] 27) = V4 at *
            refine wpAnyH_ready (rs := [12]) (by kernel_rfl) (by simp) ?_
            refine AllReadyH.cons rfl (fun K hK => ?_) ?_
            · go_simp
              go_at_call 29
              refine (c3 _).mono ?_
              rintro e VV ⟨rfl, rfl⟩
              refine hK.out _ _ (cell_alloc _ hHeld) (fun hHeld2 => ?_)
              clear hK K
              (try simp only [Act.put, List.setIfInBounds_toArray, List.set_cons_zero, List.set_cons_succ])
              have B_V5 := bbB (.cells #[.int .i64 ra, .int .i64 rb, .int .i64 rc] 25) B_V4
              have X_V5 := ((box_below V4 (.cells #[.int .i64 ra, .int .i64 rb, .int .i64 rc] 25)).block p4 (Array.getElem?_eq_some_iff.1 X_V4).1).trans X_V4
              have L_V5 := L_V4
              clear hHeld
              have hHeld := hHeld2
              clear hHeld2
              generalize V4.alloc (.cells #[.int .i64 ra, .int .i64 rb, .int .i64 rc] 25) = V5 at *
              refine wpAnyH_ready (rs := [14]) (by kernel_rfl) (by simp) ?_
              refine AllReadyH.cons rfl (fun K hK => ?_) ?_
              · go_simp
                go_at_call 30
                refine (c4 _).mono ?_
                rintro e VV ⟨rfl, hVV⟩
                rw [hVV]
                clear hVV VV
                refine hK.out _ _ hHeld (fun _ => ?_)
                clear hK K
                (try simp only [Act.put, List.setIfInBounds_toArray, List.set_cons_zero, List.set_cons_succ])
                refine wpAnyH_take (i := 15) (v := ?_) rfl (by kernel_rfl) (by kernel_rfl) (by kernel_rfl) (fun _ _ _ h => h) (Or.inl ⟨by rfl, ?_⟩) (by assumption) ?_
                rotate_left
                · (intro V hSw; (try dsimp only at hSw); go_simp; (try with_reducible rfl))
                (try simp only [Act.put, List.setIfInBounds_toArray, List.set_cons_zero, List.set_cons_succ])
                refine wpAnyH_ready (rs := [17]) (by kernel_rfl) (by simp) ?_
                refine AllReadyH.cons rfl (fun K hK => ?_) ?_
                · obtain ⟨⟨e0, e1, e2, e3, e4, e5, e6, e7, e8⟩, z0, z1, z2, z3, z4, z5, z6, z7, z8⟩ := bx9 X_V5
                  go_simp
                  refine hK.out _ _ (cell_set9 hHeld (ne_row hHeld X_V5 hps)) (fun _ => ?_)
                  clear hK K
                  (try simp only [Act.put, List.setIfInBounds_toArray, List.set_cons_zero, List.set_cons_succ])
                  refine wpAnyH_done (by kernel_rfl) ?_ _
                  go_wp2
                  go_meet
                  case rel => exact ⟨p4, rfl, set_row9 X_V5 _ _ _ _ _ _ _ _ _, L_V5, below_set9 _ _ _ _ _ _ _ _ _ B_V5 L_V5⟩
                exact AllReadyH.nil
              exact AllReadyH.nil
            exact AllReadyH.nil
          exact AllReadyH.nil
        refine AllReadyH.cons rfl (fun K hK => ?_) ?_
        · go_simp
          refine hK.out _ _ (cell_alloc _ hHeld) (fun hHeld2 => ?_)
          clear hK K
          (try simp only [Act.put, List.setIfInBounds_toArray, List.set_cons_zero, List.set_cons_succ])
          have B_V6 := bbB (.cells #[.string ⟨#[]⟩, .bool false, .bool false, .int .i64 0, .int .i64 0, .int .i64 0, .int .i64 0, .bool false, .bool false] 27) B_VA
          have X_V6 := allocNew VA (.cells #[.string ⟨#[]⟩, .bool false, .bool false, .int .i64 0, .int .i64 0, .int .i64 0, .int .i64 0, .bool false, .bool false] 27)
          have L_V6 := (show W0.heap.size ≤ VA.heap.size from B_VA.size)
          generalize VA.heap.size = p6 at *
          clear hHeld
          have hHeld := hHeld2
          clear hHeld2
          generalize VA.alloc (.cells #[.string ⟨#[]⟩, .bool false, .bool false, .int .i64 0, .int .i64 0, .int .i64 0, .int .i64 0, .bool false, .bool false] 27) = V6 at *
          refine wpAnyH_ready (rs := [9]) (by kernel_rfl) (by simp) ?_
          refine AllReadyH.cons rfl (fun K hK => ?_) ?_
          · go_simp
            go_at_call 28
            refine (c2 _).mono ?_
            rintro e VV ⟨rfl, hVV⟩
            rw [hVV]
            clear hVV VV
            refine hK.out _ _ hHeld (fun _ => ?_)
            clear hK K
            (try simp only [Act.put, List.setIfInBounds_toArray, List.set_cons_zero, List.set_cons_succ])
            refine wpAnyH_take (i := 10) (v := ?_) rfl (by kernel_rfl) (by kernel_rfl) (by kernel_rfl) (fun _ _ _ h => h) (Or.inl ⟨by rfl, ?_⟩) (by assumption) ?_
            rotate_left
            · (intro V hSw; (try dsimp only at hSw); go_simp; (try with_reducible rfl))
            (try simp only [Act.put, List.setIfInBounds_toArray, List.set_cons_zero, List.set_cons_succ])
            refine wpAnyH_ready (rs := [12]) (by kernel_rfl) (by simp) ?_
            refine AllReadyH.cons rfl (fun K hK => ?_) ?_
            · go_simp
              go_at_call 29
              refine (c3 _).mono ?_
              rintro e VV ⟨rfl, rfl⟩
              refine hK.out _ _ (cell_alloc _ hHeld) (fun hHeld2 => ?_)
              clear hK K
              (try simp only [Act.put, List.setIfInBounds_toArray, List.set_cons_zero, List.set_cons_succ])
              have B_V7 := bbB (.cells #[.int .i64 ra, .int .i64 rb, .int .i64 rc] 25) B_V6
              have X_V7 := ((box_below V6 (.cells #[.int .i64 ra, .int .i64 rb, .int .i64 rc] 25)).block p6 (Array.getElem?_eq_some_iff.1 X_V6).1).trans X_V6
              have L_V7 := L_V6
              clear hHeld
              have hHeld := hHeld2
              clear hHeld2
              generalize V6.alloc (.cells #[.int .i64 ra, .int .i64 rb, .int .i64 rc] 25) = V7 at *
              refine wpAnyH_ready (rs := [14]) (by kernel_rfl) (by simp) ?_
              refine AllReadyH.cons rfl (fun K hK => ?_) ?_
              · go_simp
                go_at_call 30
                refine (c4 _).mono ?_
                rintro e VV ⟨rfl, hVV⟩
                rw [hVV]
                clear hVV VV
                refine hK.out _ _ hHeld (fun _ => ?_)
                clear hK K
                (try simp only [Act.put, List.setIfInBounds_toArray, List.set_cons_zero, List.set_cons_succ])
                refine wpAnyH_take (i := 15) (v := ?_) rfl (by kernel_rfl) (by kernel_rfl) (by kernel_rfl) (fun _ _ _ h => h) (Or.inl ⟨by rfl, ?_⟩) (by assumption) ?_
                rotate_left
                · (intro V hSw; (try dsimp only at hSw); go_simp; (try with_reducible rfl))
                (try simp only [Act.put, List.setIfInBounds_toArray, List.set_cons_zero, List.set_cons_succ])
                refine wpAnyH_ready (rs := [17]) (by kernel_rfl) (by simp) ?_
                refine AllReadyH.cons rfl (fun K hK => ?_) ?_
                · obtain ⟨⟨e0, e1, e2, e3, e4, e5, e6, e7, e8⟩, z0, z1, z2, z3, z4, z5, z6, z7, z8⟩ := bx9 X_V7
                  go_simp
                  refine hK.out _ _ (cell_set9 hHeld (ne_row hHeld X_V7 hps)) (fun _ => ?_)
                  clear hK K
                  (try simp only [Act.put, List.setIfInBounds_toArray, List.set_cons_zero, List.set_cons_succ])
                  refine wpAnyH_done (by kernel_rfl) ?_ _
                  go_wp2
                  go_meet
                  case rel => exact ⟨p6, rfl, set_row9 X_V7 _ _ _ _ _ _ _ _ _, L_V7, below_set9 _ _ _ _ _ _ _ _ _ B_V7 L_V7⟩
                exact AllReadyH.nil
              exact AllReadyH.nil
            exact AllReadyH.nil
          exact AllReadyH.nil
        exact AllReadyH.nil
      refine AllReadyH.cons rfl (fun K hK => ?_) ?_
      · go_simp
        refine hK.out _ _ (cell_alloc _ hHeld) (fun hHeld2 => ?_)
        clear hK K
        (try simp only [Act.put, List.setIfInBounds_toArray, List.set_cons_zero, List.set_cons_succ])
        have B_V8 := bbB (.cells #[.string ⟨#[]⟩, .bool false, .bool false, .int .i64 0, .int .i64 0, .int .i64 0, .int .i64 0, .bool false, .bool false] 27) B_VA
        have X_V8 := allocNew VA (.cells #[.string ⟨#[]⟩, .bool false, .bool false, .int .i64 0, .int .i64 0, .int .i64 0, .int .i64 0, .bool false, .bool false] 27)
        have L_V8 := (show W0.heap.size ≤ VA.heap.size from B_VA.size)
        generalize VA.heap.size = p8 at *
        clear hHeld
        have hHeld := hHeld2
        clear hHeld2
        generalize VA.alloc (.cells #[.string ⟨#[]⟩, .bool false, .bool false, .int .i64 0, .int .i64 0, .int .i64 0, .int .i64 0, .bool false, .bool false] 27) = V8 at *
        refine wpAnyH_ready (rs := [6]) (by kernel_rfl) (by simp) ?_
        refine AllReadyH.cons rfl (fun K hK => ?_) ?_
        · go_simp
          go_at_call 28
          refine (c1 _).mono ?_
          rintro e VV ⟨rfl, hVV⟩
          rw [hVV]
          clear hVV VV
          refine hK.out _ _ hHeld (fun _ => ?_)
          clear hK K
          (try simp only [Act.put, List.setIfInBounds_toArray, List.set_cons_zero, List.set_cons_succ])
          refine wpAnyH_take (i := 7) (v := ?_) rfl (by kernel_rfl) (by kernel_rfl) (by kernel_rfl) (fun _ _ _ h => h) (Or.inl ⟨by rfl, ?_⟩) (by assumption) ?_
          rotate_left
          · (intro V hSw; (try dsimp only at hSw); go_simp; (try with_reducible rfl))
          (try simp only [Act.put, List.setIfInBounds_toArray, List.set_cons_zero, List.set_cons_succ])
          refine wpAnyH_ready (rs := [9]) (by kernel_rfl) (by simp) ?_
          refine AllReadyH.cons rfl (fun K hK => ?_) ?_
          · go_simp
            go_at_call 28
            refine (c2 _).mono ?_
            rintro e VV ⟨rfl, hVV⟩
            rw [hVV]
            clear hVV VV
            refine hK.out _ _ hHeld (fun _ => ?_)
            clear hK K
            (try simp only [Act.put, List.setIfInBounds_toArray, List.set_cons_zero, List.set_cons_succ])
            refine wpAnyH_take (i := 10) (v := ?_) rfl (by kernel_rfl) (by kernel_rfl) (by kernel_rfl) (fun _ _ _ h => h) (Or.inl ⟨by rfl, ?_⟩) (by assumption) ?_
            rotate_left
            · (intro V hSw; (try dsimp only at hSw); go_simp; (try with_reducible rfl))
            (try simp only [Act.put, List.setIfInBounds_toArray, List.set_cons_zero, List.set_cons_succ])
            refine wpAnyH_ready (rs := [12]) (by kernel_rfl) (by simp) ?_
            refine AllReadyH.cons rfl (fun K hK => ?_) ?_
            · go_simp
              go_at_call 29
              refine (c3 _).mono ?_
              rintro e VV ⟨rfl, rfl⟩
              refine hK.out _ _ (cell_alloc _ hHeld) (fun hHeld2 => ?_)
              clear hK K
              (try simp only [Act.put, List.setIfInBounds_toArray, List.set_cons_zero, List.set_cons_succ])
              have B_V9 := bbB (.cells #[.int .i64 ra, .int .i64 rb, .int .i64 rc] 25) B_V8
              have X_V9 := ((box_below V8 (.cells #[.int .i64 ra, .int .i64 rb, .int .i64 rc] 25)).block p8 (Array.getElem?_eq_some_iff.1 X_V8).1).trans X_V8
              have L_V9 := L_V8
              clear hHeld
              have hHeld := hHeld2
              clear hHeld2
              generalize V8.alloc (.cells #[.int .i64 ra, .int .i64 rb, .int .i64 rc] 25) = V9 at *
              refine wpAnyH_ready (rs := [14]) (by kernel_rfl) (by simp) ?_
              refine AllReadyH.cons rfl (fun K hK => ?_) ?_
              · go_simp
                go_at_call 30
                refine (c4 _).mono ?_
                rintro e VV ⟨rfl, hVV⟩
                rw [hVV]
                clear hVV VV
                refine hK.out _ _ hHeld (fun _ => ?_)
                clear hK K
                (try simp only [Act.put, List.setIfInBounds_toArray, List.set_cons_zero, List.set_cons_succ])
                refine wpAnyH_take (i := 15) (v := ?_) rfl (by kernel_rfl) (by kernel_rfl) (by kernel_rfl) (fun _ _ _ h => h) (Or.inl ⟨by rfl, ?_⟩) (by assumption) ?_
                rotate_left
                · (intro V hSw; (try dsimp only at hSw); go_simp; (try with_reducible rfl))
                (try simp only [Act.put, List.setIfInBounds_toArray, List.set_cons_zero, List.set_cons_succ])
                refine wpAnyH_ready (rs := [17]) (by kernel_rfl) (by simp) ?_
                refine AllReadyH.cons rfl (fun K hK => ?_) ?_
                · obtain ⟨⟨e0, e1, e2, e3, e4, e5, e6, e7, e8⟩, z0, z1, z2, z3, z4, z5, z6, z7, z8⟩ := bx9 X_V9
                  go_simp
                  refine hK.out _ _ (cell_set9 hHeld (ne_row hHeld X_V9 hps)) (fun _ => ?_)
                  clear hK K
                  (try simp only [Act.put, List.setIfInBounds_toArray, List.set_cons_zero, List.set_cons_succ])
                  refine wpAnyH_done (by kernel_rfl) ?_ _
                  go_wp2
                  go_meet
                  case rel => exact ⟨p8, rfl, set_row9 X_V9 _ _ _ _ _ _ _ _ _, L_V9, below_set9 _ _ _ _ _ _ _ _ _ B_V9 L_V9⟩
                exact AllReadyH.nil
              exact AllReadyH.nil
            exact AllReadyH.nil
          exact AllReadyH.nil
        exact AllReadyH.nil
      exact AllReadyH.nil
    · go_simp
      refine hK _ _ ?_
      clear hK K
      (try simp only [Act.put, List.setIfInBounds_toArray, List.set_cons_zero, List.set_cons_succ])
      have B_VB := bbB (.cells #[.string ⟨#[]⟩, .bool false, .bool false, .int .i64 0, .int .i64 0, .int .i64 0, .int .i64 0, .bool false, .bool false] 27) B_VD
      have X_VB := allocNew VD (.cells #[.string ⟨#[]⟩, .bool false, .bool false, .int .i64 0, .int .i64 0, .int .i64 0, .int .i64 0, .bool false, .bool false] 27)
      have L_VB := (show W0.heap.size ≤ VD.heap.size from B_VD.size)
      generalize VD.heap.size = pB at *
      generalize VD.alloc (.cells #[.string ⟨#[]⟩, .bool false, .bool false, .int .i64 0, .int .i64 0, .int .i64 0, .int .i64 0, .bool false, .bool false] 27) = VB at *
      refine wpAny_ready (rs := [0]) (by kernel_rfl) (by simp) ?_
      refine AllReady.cons rfl (fun K hK => ?_) AllReady.nil
      go_simp
      go_at_call 9
      refine (cs _).mono ?_
      rintro e VV ⟨rfl, rfl⟩
      refine hK _ _ ?_
      clear hK K
      (try simp only [Act.put, List.setIfInBounds_toArray, List.set_cons_zero, List.set_cons_succ])
      have hHeld := CC VB _ (Below.refl _ _)
      have B_VC := bbB (.cells SL.toArray 9) B_VB
      have X_VC := ((box_below VB (.cells SL.toArray 9)).block pB (Array.getElem?_eq_some_iff.1 X_VB).1).trans X_VB
      have L_VC := L_VB
      have nbx : VB.heap.size ≠ pB := by have := (Array.getElem?_eq_some_iff.1 X_VB).1; omega
      generalize VB.heap.size = gR at *
      generalize VB.alloc (.cells SL.toArray 9) = VC at *
      refine wpAny_of_held (S := fun V => V.cell? ⟨gR, k, none⟩ = some (.string (pS k))) _ _ _ _ ?_
      refine wpAnyH_take (i := 3) (v := ?_) rfl (by kernel_rfl) (by kernel_rfl) (by kernel_rfl) (fun _ _ _ h => h) (Or.inl ⟨by rfl, ?_⟩) (by assumption) ?_
      rotate_left
      · (intro V hSw; (try dsimp only at hSw); go_simp; (try with_reducible rfl))
      (try simp only [Act.put, List.setIfInBounds_toArray, List.set_cons_zero, List.set_cons_succ])
      refine wpAnyH_take (i := 4) (v := ?_) rfl (by kernel_rfl) (by kernel_rfl) (by kernel_rfl) (fun _ _ _ h => h) (Or.inl ⟨by rfl, ?_⟩) (by assumption) ?_
      rotate_left
      · (intro V hSw; (try dsimp only at hSw); go_simp; (try with_reducible rfl))
      (try simp only [Act.put, List.setIfInBounds_toArray, List.set_cons_zero, List.set_cons_succ])
      refine wpAnyH_ready (rs := [6]) (by kernel_rfl) (by simp) ?_
      refine AllReadyH.cons rfl (fun K hK => ?_) ?_
      · go_simp
        go_at_call 28
        refine (c1 _).mono ?_
        rintro e VV ⟨rfl, hVV⟩
        rw [hVV]
        clear hVV VV
        refine hK.out _ _ hHeld (fun _ => ?_)
        clear hK K
        (try simp only [Act.put, List.setIfInBounds_toArray, List.set_cons_zero, List.set_cons_succ])
        refine wpAnyH_take (i := 7) (v := ?_) rfl (by kernel_rfl) (by kernel_rfl) (by kernel_rfl) (fun _ _ _ h => h) (Or.inl ⟨by rfl, ?_⟩) (by assumption) ?_
        rotate_left
        · (intro V hSw; (try dsimp only at hSw); go_simp; (try with_reducible rfl))
        (try simp only [Act.put, List.setIfInBounds_toArray, List.set_cons_zero, List.set_cons_succ])
        refine wpAnyH_ready (rs := [9]) (by kernel_rfl) (by simp) ?_
        refine AllReadyH.cons rfl (fun K hK => ?_) ?_
        · go_simp
          go_at_call 28
          refine (c2 _).mono ?_
          rintro e VV ⟨rfl, hVV⟩
          rw [hVV]
          clear hVV VV
          refine hK.out _ _ hHeld (fun _ => ?_)
          clear hK K
          (try simp only [Act.put, List.setIfInBounds_toArray, List.set_cons_zero, List.set_cons_succ])
          refine wpAnyH_take (i := 10) (v := ?_) rfl (by kernel_rfl) (by kernel_rfl) (by kernel_rfl) (fun _ _ _ h => h) (Or.inl ⟨by rfl, ?_⟩) (by assumption) ?_
          rotate_left
          · (intro V hSw; (try dsimp only at hSw); go_simp; (try with_reducible rfl))
          (try simp only [Act.put, List.setIfInBounds_toArray, List.set_cons_zero, List.set_cons_succ])
          refine wpAnyH_ready (rs := [12]) (by kernel_rfl) (by simp) ?_
          refine AllReadyH.cons rfl (fun K hK => ?_) ?_
          · go_simp
            go_at_call 29
            refine (c3 _).mono ?_
            rintro e VV ⟨rfl, rfl⟩
            refine hK.out _ _ (cell_alloc _ hHeld) (fun hHeld2 => ?_)
            clear hK K
            (try simp only [Act.put, List.setIfInBounds_toArray, List.set_cons_zero, List.set_cons_succ])
            have B_V10 := bbB (.cells #[.int .i64 ra, .int .i64 rb, .int .i64 rc] 25) B_VC
            have X_V10 := ((box_below VC (.cells #[.int .i64 ra, .int .i64 rb, .int .i64 rc] 25)).block pB (Array.getElem?_eq_some_iff.1 X_VC).1).trans X_VC
            have L_V10 := L_VC
            clear hHeld
            have hHeld := hHeld2
            clear hHeld2
            generalize VC.alloc (.cells #[.int .i64 ra, .int .i64 rb, .int .i64 rc] 25) = V10 at *
            refine wpAnyH_ready (rs := [14]) (by kernel_rfl) (by simp) ?_
            refine AllReadyH.cons rfl (fun K hK => ?_) ?_
            · go_simp
              go_at_call 30
              refine (c4 _).mono ?_
              rintro e VV ⟨rfl, hVV⟩
              rw [hVV]
              clear hVV VV
              refine hK.out _ _ hHeld (fun _ => ?_)
              clear hK K
              (try simp only [Act.put, List.setIfInBounds_toArray, List.set_cons_zero, List.set_cons_succ])
              refine wpAnyH_take (i := 15) (v := ?_) rfl (by kernel_rfl) (by kernel_rfl) (by kernel_rfl) (fun _ _ _ h => h) (Or.inl ⟨by rfl, ?_⟩) (by assumption) ?_
              rotate_left
              · (intro V hSw; (try dsimp only at hSw); go_simp; (try with_reducible rfl))
              (try simp only [Act.put, List.setIfInBounds_toArray, List.set_cons_zero, List.set_cons_succ])
              refine wpAnyH_ready (rs := [17]) (by kernel_rfl) (by simp) ?_
              refine AllReadyH.cons rfl (fun K hK => ?_) ?_
              · obtain ⟨⟨e0, e1, e2, e3, e4, e5, e6, e7, e8⟩, z0, z1, z2, z3, z4, z5, z6, z7, z8⟩ := bx9 X_V10
                go_simp
                refine hK.out _ _ (cell_set9 hHeld (ne_row hHeld X_V10 hps)) (fun _ => ?_)
                clear hK K
                (try simp only [Act.put, List.setIfInBounds_toArray, List.set_cons_zero, List.set_cons_succ])
                refine wpAnyH_done (by kernel_rfl) ?_ _
                go_wp2
                go_meet
                case rel => exact ⟨pB, rfl, set_row9 X_V10 _ _ _ _ _ _ _ _ _, L_V10, below_set9 _ _ _ _ _ _ _ _ _ B_V10 L_V10⟩
              exact AllReadyH.nil
            exact AllReadyH.nil
          exact AllReadyH.nil
        exact AllReadyH.nil
      exact AllReadyH.nil
  case rest =>
    obtain ⟨p, rfl, hp, lp, bc⟩ := hcut
    clear CC cs c1 c2 c3 c4 ts
    have m0 := (bc.block w.heap.size gw).trans n0
    have ne1 : ¬ w.heap.size = p := by omega
    have ne2 : ¬ p = w.heap.size := by omega
    have bw := btw b0 bc b0.size
    have lw : w.heap.size ≤ p := by omega
    clear bc b0 n0 gw lp
    cases mb
    · cases db
      · obtain ⟨⟨e0, e1, e2, e3, e4, e5, e6, e7, e8⟩, z0, z1, z2, z3, z4, z5, z6, z7, z8⟩ := bx9 hp
        go_upto_region 8 with fail
        have h5 : ((((wc.setCell ⟨p, 3, none⟩ (.int .i64 0)).setCell ⟨p, 4, none⟩ (.int .i64 0)).setCell ⟨p, 5, none⟩ (.int .i64 0))).heap[p]? = some (.cells #[.string (pS k), .bool false, .bool false, .int .i64 0, .int .i64 0, .int .i64 0, .int .i64 0, .bool false, .bool cm] 27 (0, 0)) := (heap_setCell_same _ p 5 _ _ (.int .i64 0) (heap_setCell_same _ p 4 _ _ (.int .i64 0) (heap_setCell_same _ p 3 _ _ (.int .i64 0) hp)))
        have g5 := ((heap_setCell_other _ ⟨p, 5, none⟩ w.heap.size (.int .i64 0) ne1).trans ((heap_setCell_other _ ⟨p, 4, none⟩ w.heap.size (.int .i64 0) ne1).trans ((heap_setCell_other _ ⟨p, 3, none⟩ w.heap.size (.int .i64 0) ne1).trans m0)))
        have b5 := (((bw.setCell (p := ⟨p, 3, none⟩) lw (.int .i64 0)).setCell (p := ⟨p, 4, none⟩) lw (.int .i64 0)).setCell (p := ⟨p, 5, none⟩) lw (.int .i64 0))
        clear e0 e1 e2 e3 e4 e5 e6 e7 e8 z0 z1 z2 z3 z4 z5 z6 z7 z8 hp m0 bw
        generalize (((wc.setCell ⟨p, 3, none⟩ (.int .i64 0)).setCell ⟨p, 4, none⟩ (.int .i64 0)).setCell ⟨p, 5, none⟩ (.int .i64 0)) = V5 at h5 g5 b5 ⊢
        obtain ⟨⟨e0, e1, e2, e3, e4, e5, e6, e7, e8⟩, z0, z1, z2, z3, z4, z5, z6, z7, z8⟩ := bx9 h5
        go_upto_region 9 with (first
          | (go_at_call 31; (with_reducible refine (c5 _).mono ?_); rintro e VV ⟨rfl, hVV⟩; rw [hVV]; clear hVV VV))
        have h6 : ((V5.setCell ⟨p, 6, none⟩ (.int .i64 ei)).setCell ⟨p, 7, none⟩ (.bool eh)).heap[p]? = some (.cells #[.string (pS k), .bool false, .bool false, .int .i64 0, .int .i64 0, .int .i64 0, .int .i64 ei, .bool eh, .bool cm] 27 (0, 0)) := heap_setCell_same _ p 7 _ _ (.bool eh) (heap_setCell_same _ p 6 _ _ (.int .i64 ei) h5)
        have g6 := (heap_setCell_other _ ⟨p, 7, none⟩ w.heap.size (.bool eh) ne1).trans ((heap_setCell_other _ ⟨p, 6, none⟩ w.heap.size (.int .i64 ei) ne1).trans g5)
        have b6 := (b5.setCell (p := ⟨p, 6, none⟩) lw (.int .i64 ei)).setCell (p := ⟨p, 7, none⟩) lw (.bool eh)
        clear e0 e1 e2 e3 e4 e5 e6 e7 e8 z0 z1 z2 z3 z4 z5 z6 z7 z8 h5 g5 b5
        generalize (V5.setCell ⟨p, 6, none⟩ (.int .i64 ei)).setCell ⟨p, 7, none⟩ (.bool eh) = V6 at h6 g6 b6 ⊢
        obtain ⟨⟨e0, e1, e2, e3, e4, e5, e6, e7, e8⟩, _⟩ := bx9 h6
        obtain ⟨⟨f0, f1, f2, f3, f4, f5, f6, f7, f8⟩, y0, y1, y2, y3, y4, y5, y6, y7, y8⟩ := bx9 g6
        go_wp2
        refine bodyPost_ret (v := .tuple #[.agg #[.string (pS k), .bool false, .bool false, .int .i64 0, .int .i64 0, .int .i64 0, .int .i64 ei, .bool eh, .bool cm], .int .i64 0]) (by rw [results_cell_tmp rfl]; go_simp) rfl ?_
        exact ⟨rfl, below_set9 _ _ _ _ _ _ _ _ _ b6 (Nat.le_refl _)⟩
      · obtain ⟨⟨e0, e1, e2, e3, e4, e5, e6, e7, e8⟩, z0, z1, z2, z3, z4, z5, z6, z7, z8⟩ := bx9 hp
        go_upto_region 8 with fail
        have h5 : ((wc.setCell ⟨p, 3, none⟩ (.int .i64 0))).heap[p]? = some (.cells #[.string (pS k), .bool false, .bool true, .int .i64 0, .int .i64 rb, .int .i64 rc, .int .i64 0, .bool false, .bool cm] 27 (0, 0)) := (heap_setCell_same _ p 3 _ _ (.int .i64 0) hp)
        have g5 := ((heap_setCell_other _ ⟨p, 3, none⟩ w.heap.size (.int .i64 0) ne1).trans m0)
        have b5 := (bw.setCell (p := ⟨p, 3, none⟩) lw (.int .i64 0))
        clear e0 e1 e2 e3 e4 e5 e6 e7 e8 z0 z1 z2 z3 z4 z5 z6 z7 z8 hp m0 bw
        generalize (wc.setCell ⟨p, 3, none⟩ (.int .i64 0)) = V5 at h5 g5 b5 ⊢
        obtain ⟨⟨e0, e1, e2, e3, e4, e5, e6, e7, e8⟩, z0, z1, z2, z3, z4, z5, z6, z7, z8⟩ := bx9 h5
        go_upto_region 9 with (first
          | (go_at_call 31; (with_reducible refine (c5 _).mono ?_); rintro e VV ⟨rfl, hVV⟩; rw [hVV]; clear hVV VV))
        have h6 : ((V5.setCell ⟨p, 6, none⟩ (.int .i64 ei)).setCell ⟨p, 7, none⟩ (.bool eh)).heap[p]? = some (.cells #[.string (pS k), .bool false, .bool true, .int .i64 0, .int .i64 rb, .int .i64 rc, .int .i64 ei, .bool eh, .bool cm] 27 (0, 0)) := heap_setCell_same _ p 7 _ _ (.bool eh) (heap_setCell_same _ p 6 _ _ (.int .i64 ei) h5)
        have g6 := (heap_setCell_other _ ⟨p, 7, none⟩ w.heap.size (.bool eh) ne1).trans ((heap_setCell_other _ ⟨p, 6, none⟩ w.heap.size (.int .i64 ei) ne1).trans g5)
        have b6 := (b5.setCell (p := ⟨p, 6, none⟩) lw (.int .i64 ei)).setCell (p := ⟨p, 7, none⟩) lw (.bool eh)
        clear e0 e1 e2 e3 e4 e5 e6 e7 e8 z0 z1 z2 z3 z4 z5 z6 z7 z8 h5 g5 b5
        generalize (V5.setCell ⟨p, 6, none⟩ (.int .i64 ei)).setCell ⟨p, 7, none⟩ (.bool eh) = V6 at h6 g6 b6 ⊢
        obtain ⟨⟨e0, e1, e2, e3, e4, e5, e6, e7, e8⟩, _⟩ := bx9 h6
        obtain ⟨⟨f0, f1, f2, f3, f4, f5, f6, f7, f8⟩, y0, y1, y2, y3, y4, y5, y6, y7, y8⟩ := bx9 g6
        go_wp2
        refine bodyPost_ret (v := .tuple #[.agg #[.string (pS k), .bool false, .bool true, .int .i64 0, .int .i64 rb, .int .i64 rc, .int .i64 ei, .bool eh, .bool cm], .int .i64 0]) (by rw [results_cell_tmp rfl]; go_simp) rfl ?_
        exact ⟨rfl, below_set9 _ _ _ _ _ _ _ _ _ b6 (Nat.le_refl _)⟩
    · cases db
      · obtain ⟨⟨e0, e1, e2, e3, e4, e5, e6, e7, e8⟩, z0, z1, z2, z3, z4, z5, z6, z7, z8⟩ := bx9 hp
        go_upto_region 8 with fail
        have h5 : (((wc.setCell ⟨p, 4, none⟩ (.int .i64 0)).setCell ⟨p, 5, none⟩ (.int .i64 0))).heap[p]? = some (.cells #[.string (pS k), .bool true, .bool false, .int .i64 ra, .int .i64 0, .int .i64 0, .int .i64 0, .bool false, .bool cm] 27 (0, 0)) := (heap_setCell_same _ p 5 _ _ (.int .i64 0) (heap_setCell_same _ p 4 _ _ (.int .i64 0) hp))
        have g5 := ((heap_setCell_other _ ⟨p, 5, none⟩ w.heap.size (.int .i64 0) ne1).trans ((heap_setCell_other _ ⟨p, 4, none⟩ w.heap.size (.int .i64 0) ne1).trans m0))
        have b5 := ((bw.setCell (p := ⟨p, 4, none⟩) lw (.int .i64 0)).setCell (p := ⟨p, 5, none⟩) lw (.int .i64 0))
        clear e0 e1 e2 e3 e4 e5 e6 e7 e8 z0 z1 z2 z3 z4 z5 z6 z7 z8 hp m0 bw
        generalize ((wc.setCell ⟨p, 4, none⟩ (.int .i64 0)).setCell ⟨p, 5, none⟩ (.int .i64 0)) = V5 at h5 g5 b5 ⊢
        obtain ⟨⟨e0, e1, e2, e3, e4, e5, e6, e7, e8⟩, z0, z1, z2, z3, z4, z5, z6, z7, z8⟩ := bx9 h5
        go_upto_region 9 with (first
          | (go_at_call 31; (with_reducible refine (c5 _).mono ?_); rintro e VV ⟨rfl, hVV⟩; rw [hVV]; clear hVV VV))
        have h6 : ((V5.setCell ⟨p, 6, none⟩ (.int .i64 ei)).setCell ⟨p, 7, none⟩ (.bool eh)).heap[p]? = some (.cells #[.string (pS k), .bool true, .bool false, .int .i64 ra, .int .i64 0, .int .i64 0, .int .i64 ei, .bool eh, .bool cm] 27 (0, 0)) := heap_setCell_same _ p 7 _ _ (.bool eh) (heap_setCell_same _ p 6 _ _ (.int .i64 ei) h5)
        have g6 := (heap_setCell_other _ ⟨p, 7, none⟩ w.heap.size (.bool eh) ne1).trans ((heap_setCell_other _ ⟨p, 6, none⟩ w.heap.size (.int .i64 ei) ne1).trans g5)
        have b6 := (b5.setCell (p := ⟨p, 6, none⟩) lw (.int .i64 ei)).setCell (p := ⟨p, 7, none⟩) lw (.bool eh)
        clear e0 e1 e2 e3 e4 e5 e6 e7 e8 z0 z1 z2 z3 z4 z5 z6 z7 z8 h5 g5 b5
        generalize (V5.setCell ⟨p, 6, none⟩ (.int .i64 ei)).setCell ⟨p, 7, none⟩ (.bool eh) = V6 at h6 g6 b6 ⊢
        obtain ⟨⟨e0, e1, e2, e3, e4, e5, e6, e7, e8⟩, _⟩ := bx9 h6
        obtain ⟨⟨f0, f1, f2, f3, f4, f5, f6, f7, f8⟩, y0, y1, y2, y3, y4, y5, y6, y7, y8⟩ := bx9 g6
        go_wp2
        refine bodyPost_ret (v := .tuple #[.agg #[.string (pS k), .bool true, .bool false, .int .i64 ra, .int .i64 0, .int .i64 0, .int .i64 ei, .bool eh, .bool cm], .int .i64 0]) (by rw [results_cell_tmp rfl]; go_simp) rfl ?_
        exact ⟨rfl, below_set9 _ _ _ _ _ _ _ _ _ b6 (Nat.le_refl _)⟩
      · obtain ⟨⟨e0, e1, e2, e3, e4, e5, e6, e7, e8⟩, z0, z1, z2, z3, z4, z5, z6, z7, z8⟩ := bx9 hp
        go_upto_region 8 with fail
        have h5 : (wc).heap[p]? = some (.cells #[.string (pS k), .bool true, .bool true, .int .i64 ra, .int .i64 rb, .int .i64 rc, .int .i64 0, .bool false, .bool cm] 27 (0, 0)) := hp
        have g5 := m0
        have b5 := bw
        clear e0 e1 e2 e3 e4 e5 e6 e7 e8 z0 z1 z2 z3 z4 z5 z6 z7 z8 hp m0 bw
        generalize wc = V5 at h5 g5 b5 ⊢
        obtain ⟨⟨e0, e1, e2, e3, e4, e5, e6, e7, e8⟩, z0, z1, z2, z3, z4, z5, z6, z7, z8⟩ := bx9 h5
        go_upto_region 9 with (first
          | (go_at_call 31; (with_reducible refine (c5 _).mono ?_); rintro e VV ⟨rfl, hVV⟩; rw [hVV]; clear hVV VV))
        have h6 : ((V5.setCell ⟨p, 6, none⟩ (.int .i64 ei)).setCell ⟨p, 7, none⟩ (.bool eh)).heap[p]? = some (.cells #[.string (pS k), .bool true, .bool true, .int .i64 ra, .int .i64 rb, .int .i64 rc, .int .i64 ei, .bool eh, .bool cm] 27 (0, 0)) := heap_setCell_same _ p 7 _ _ (.bool eh) (heap_setCell_same _ p 6 _ _ (.int .i64 ei) h5)
        have g6 := (heap_setCell_other _ ⟨p, 7, none⟩ w.heap.size (.bool eh) ne1).trans ((heap_setCell_other _ ⟨p, 6, none⟩ w.heap.size (.int .i64 ei) ne1).trans g5)
        have b6 := (b5.setCell (p := ⟨p, 6, none⟩) lw (.int .i64 ei)).setCell (p := ⟨p, 7, none⟩) lw (.bool eh)
        clear e0 e1 e2 e3 e4 e5 e6 e7 e8 z0 z1 z2 z3 z4 z5 z6 z7 z8 h5 g5 b5
        generalize (V5.setCell ⟨p, 6, none⟩ (.int .i64 ei)).setCell ⟨p, 7, none⟩ (.bool eh) = V6 at h6 g6 b6 ⊢
        obtain ⟨⟨e0, e1, e2, e3, e4, e5, e6, e7, e8⟩, _⟩ := bx9 h6
        obtain ⟨⟨f0, f1, f2, f3, f4, f5, f6, f7, f8⟩, y0, y1, y2, y3, y4, y5, y6, y7, y8⟩ := bx9 g6
        go_wp2
        refine bodyPost_ret (v := .tuple #[.agg #[.string (pS k), .bool true, .bool true, .int .i64 ra, .int .i64 rb, .int .i64 rc, .int .i64 ei, .bool eh, .bool cm], .int .i64 0]) (by rw [results_cell_tmp rfl]; go_simp) rfl ?_
        exact ⟨rfl, below_set9 _ _ _ _ _ _ _ _ _ b6 (Nat.le_refl _)⟩
end Go.Proofs.YtelcagfaflpolaaGreat
