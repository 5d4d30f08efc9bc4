/- The law ShapeThere of a shape that may not be. -/
import Derived.Test.YtedidfjonkepoaaThere1
import Derived.Deep.RegionWith
namespace Go.Proofs.Ytedidfjonkepoaa
open Go.RowKit Go.Shelf
attribute [local go_sem] Oper.semAt_some
set_option linter.unusedVariables false

set_option maxRecDepth 100000 in
set_option maxHeartbeats 8000000 in
theorem there_no (so ao : Option Addr) (m sc n cap : Nat) (zs ys : List Int) (w : World) (h : Rd w so m zs) (g : Rd w ao n ys) (h0 : mayF zs ≠ 0) :
    Calls Try.prog 5 #[.slice so m sc, .slice ao n cap] w fun e w' => e = .returned (.bool true) ∧ Below w.heap.size w w' := by
  have f1 : (mayF zs != 0) = true := by simpa using h0
  have bs := (Boxed.new w 25 (.slice so m sc)).alloc (.cells #[.bool false] 4)
  have br := Boxed.new (w.alloc (.cells #[.slice so m sc] 25)) 4 (.bool false)
  rw [World.size_alloc] at br
  have bw : Below w.heap.size w ((w.alloc (.cells #[.slice so m sc] 25)).alloc (.cells #[.bool false] 4)) := ((Below.refl _ w).alloc (Nat.le_refl _) _).alloc (by simp) _
  have rs := h.below bw (Nat.le_refl _)
  have ro := g.below bw (Nat.le_refl _)
  have hmay := fun W (hW : Rd W so m zs) => may_any so m sc zs W hW
  have hsize : ∀ W, Rd W so m zs → Calls Try.prog 18 #[.slice so m sc] W fun e w' => e = .returned (.tuple #[.int .i64 0, .int .i64 (mayF zs)]) ∧ w' = W := fun W hW => by
    have := size_any so m sc zs W hW; rwa [sizeF_no h0] at this
  have hplace : ∀ W, Rd W so m zs → Rd W ao n ys → Calls Try.prog 19 #[.slice so m sc, .slice ao n cap] W fun e w' => e = .returned (.tuple #[.int .i64 0, .int .i64 (mayF zs)]) ∧ w' = W := fun W h1 h2 => by
    have := place_any so ao m n sc cap zs ys W h1 h2; rwa [(place_may h0).1, (place_may h0).2] at this
  have hat : ∀ W, Rd W so m zs → Calls Try.prog 20 #[.slice so m sc, .int .i64 0] W fun e w' => ∃ co c, e = .returned (.tuple #[.slice co 0 c, .int .i64 (mayF zs)]) ∧ Below W.heap.size W w' := fun W hW => by
    refine (at_any so m sc zs 0 W hW (by omega) (by omega)).mono ?_
    rintro e w' ⟨co, k, c, rfl, hf, hb⟩
    have e1 := (at_may (p := 0) h0)
    rw [e1.2] at hf
    obtain rfl : k = 0 := hf.rd.len.symm
    exact ⟨co, c, by rw [e1.1], hb⟩
  have H0 : Hid (mayF zs ≠ 0) := h0
  clear h0
  go_enter Try.func5, Try.ntmps5
  go_wp2_with (first
    | (go_at_call 8; refine (begun_any _).mono ?_; rintro e w1 ⟨rfl, hb1⟩; have q1 := grown_of_below hb1; replace bs := bs.kept q1 (by simp); replace br := br.kept q1 (by simp); replace rs := rs.below hb1 (Nat.le_refl _); replace ro := ro.below hb1 (Nat.le_refl _); replace bw := bt bw hb1 (by simp; omega); have cs := bs.cell; clear q1)
    | (go_at_call 17; refine (hmay _ rs).mono ?_; rintro e w' ⟨rfl, hw⟩; rw [hw]; clear hw w' hmay)
    | (go_at_call 18; refine (hsize _ rs).mono ?_; rintro e w' ⟨rfl, hw⟩; rw [hw]; clear hw w' hsize; have bn := Boxed.new w1 3 (.int .i64 0); have q1 := World.grownBy_alloc w1 (.cells #[.int .i64 0] 3) none; replace bs := bs.kept q1 (by simp); replace br := br.kept q1 (by simp); replace rs := rs.alloc (.cells #[.int .i64 0] 3); replace ro := ro.alloc (.cells #[.int .i64 0] 3); replace bw := bw.alloc bw.size (.cells #[.int .i64 0] 3); have cs2 := bs.cell; clear q1 cs)
    | (go_at_call 19; refine (hplace _ rs ro).mono ?_; rintro e w' ⟨rfl, hw⟩; rw [hw]; clear hw w' hplace)
    | (go_at_call 20; refine (hat _ rs).mono ?_; rintro e w3 ⟨co3, c3, rfl, hb3⟩; have q1 := grown_of_below hb3; replace bs := bs.kept q1 (by simp); replace br := br.kept q1 (by simp); replace bn := bn.kept q1 (by simp); replace rs := rs.below hb3 (Nat.le_refl _); replace bw := bt bw hb3 (by have := bw.size; exact this); clear cs2 q1 hat ro))
  have qd : w3.grownBy w3.drew none := ⟨rfl, rfl, rfl, Nat.le_refl _, fun _ _ _ => rfl⟩
  have cs : w3.drew.cell? ⟨w.heap.size, 0, none⟩ = some (.slice so m sc) := (bs.kept qd (by simp)).cell
  have cn : w3.drew.cell? ⟨w1.heap.size, 0, none⟩ = some (.int .i64 0) := (bn.kept qd (by simp)).cell
  have rsd := rs.drew
  have brd := br.kept qd (by simp)
  have bsd := bs.kept qd (by simp)
  have bwd := bw.drew
  clear qd bs br bn rs bw hb1 hb3 f1 h g
  rename_i Q K1 a1 K0 a0
  clear a1
  refine wp_region_any (by kernel_rfl) ?_
  change wpAny _ _ _ _ _ _ _ (World.drew _)
  refine wpAny_take (i := 0) (v := .int .i64 (mayF zs)) rfl (by kernel_rfl) (by kernel_rfl) (by kernel_rfl) (fun _ _ _ h => h) (Or.inl ⟨by rfl, by intro w; go_simp⟩) ?_
  conv => arg 7; simp [Act.put]
  refine wpAny_take (i := 1) (v := .int .i64 (mayF zs)) rfl (by kernel_rfl) (by kernel_rfl) (by kernel_rfl) (fun _ _ _ h => h) (Or.inl ⟨by rfl, by intro w; go_simp⟩) ?_
  conv => arg 7; simp [Act.put]
  refine wpAny_take (i := 2) (v := .bool true) rfl (by kernel_rfl) (by kernel_rfl) (by kernel_rfl) (fun _ _ _ h => h) (Or.inl ⟨by rfl, by intro w; go_simp⟩) ?_
  conv => arg 7; simp [Act.put]
  refine wpAny_take (i := 3) (v := .bool true) rfl (by kernel_rfl) (by kernel_rfl) (by kernel_rfl) (fun _ _ _ h => h) (Or.inl ⟨by rfl, by intro w; go_simp⟩) ?_
  conv => arg 7; simp [Act.put]
  refine wpAny_take (i := 4) (v := .int .i64 (mayF zs)) rfl (by kernel_rfl) (by kernel_rfl) (by kernel_rfl) (fun _ _ _ h => h) (Or.inl ⟨by rfl, by intro w; go_simp⟩) ?_
  conv => arg 7; simp [Act.put]
  refine wpAny_take (i := 5) (v := .int .i64 (mayF zs)) rfl (by kernel_rfl) (by kernel_rfl) (by kernel_rfl) (fun _ _ _ h => h) (Or.inl ⟨by rfl, by intro w; go_simp⟩) ?_
  conv => arg 7; simp [Act.put]
  refine wpAny_take (i := 6) (v := .bool true) rfl (by kernel_rfl) (by kernel_rfl) (by kernel_rfl) (fun _ _ _ h => h) (Or.inl ⟨by rfl, by intro w; go_simp⟩) ?_
  conv => arg 7; simp [Act.put]
  refine wpAny_take (i := 7) (v := .bool true) rfl (by kernel_rfl) (by kernel_rfl) (by kernel_rfl) (fun _ _ _ h => h) (Or.inl ⟨by rfl, by intro w; go_simp⟩) ?_
  conv => arg 7; simp [Act.put]
  refine wpAny_take (i := 8) (v := .bool true) rfl (by kernel_rfl) (by kernel_rfl) (by kernel_rfl) (fun _ _ _ h => h) (Or.inl ⟨by rfl, by intro w; go_simp⟩) ?_
  conv => arg 7; simp [Act.put]
  refine wpAny_take (i := 9) (v := .int .i64 (mayF zs)) rfl (by kernel_rfl) (by kernel_rfl) (by kernel_rfl) (fun _ _ _ h => h) (Or.inl ⟨by rfl, by intro w; go_simp⟩) ?_
  conv => arg 7; simp [Act.put]
  refine wpAny_take (i := 10) (v := .int .i64 (mayF zs)) rfl (by kernel_rfl) (by kernel_rfl) (by kernel_rfl) (fun _ _ _ h => h) (Or.inl ⟨by rfl, by intro w; go_simp⟩) ?_
  conv => arg 7; simp [Act.put]
  refine wpAny_take (i := 11) (v := .bool true) rfl (by kernel_rfl) (by kernel_rfl) (by kernel_rfl) (fun _ _ _ h => h) (Or.inl ⟨by rfl, by intro w; go_simp⟩) ?_
  conv => arg 7; simp [Act.put]
  refine wpAny_take (i := 12) (v := .bool true) rfl (by kernel_rfl) (by kernel_rfl) (by kernel_rfl) (fun _ _ _ h => h) (Or.inl ⟨by rfl, by intro w; go_simp⟩) ?_
  conv => arg 7; simp [Act.put]
  refine wpAny_take (i := 13) (v := .bool true) rfl (by kernel_rfl) (by kernel_rfl) (by kernel_rfl) (fun _ _ _ h => h) (Or.inl ⟨by rfl, by intro w; go_simp⟩) ?_
  conv => arg 7; simp [Act.put]
  refine wpAny_ready (rs := [14]) (by kernel_rfl) (by simp) ?_
  refine AllReady.cons rfl (fun K hK => ?_) AllReady.nil
  go_simp
  refine hK _ _ ?_
  clear hK K
  conv => arg 7; simp [Act.put]
  refine wpAny_take (i := 15) (v := .bool true) rfl (by kernel_rfl) (by kernel_rfl) (by kernel_rfl) (fun _ _ _ h => h) (Or.inl ⟨by rfl, by intro w; go_simp⟩) ?_
  conv => arg 7; simp [Act.put]
  refine wpAny_take (i := 16) (v := .bool true) rfl (by kernel_rfl) (by kernel_rfl) (by kernel_rfl) (fun _ _ _ h => h) (Or.inl ⟨by rfl, by intro w; go_simp⟩) ?_
  conv => arg 7; simp [Act.put]
  refine wpAny_take (i := 17) (v := .bool true) rfl (by kernel_rfl) (by kernel_rfl) (by kernel_rfl) (fun _ _ _ h => h) (Or.inl ⟨by rfl, by intro w; go_simp⟩) ?_
  conv => arg 7; simp [Act.put]
  refine wpAny_take (i := 18) (v := .int .i64 0) rfl (by kernel_rfl) (by kernel_rfl) (by kernel_rfl) (fun _ _ _ h => h) (Or.inl ⟨by rfl, by intro w; go_simp⟩) ?_
  conv => arg 7; simp [Act.put]
  refine wpAny_take (i := 19) (v := .bool true) rfl (by kernel_rfl) (by kernel_rfl) (by kernel_rfl) (fun _ _ _ h => h) (Or.inl ⟨by rfl, by intro w; go_simp⟩) ?_
  conv => arg 7; simp [Act.put]
  refine wpAny_take (i := 20) (v := .bool true) rfl (by kernel_rfl) (by kernel_rfl) (by kernel_rfl) (fun _ _ _ h => h) (Or.inl ⟨by rfl, by intro w; go_simp⟩) ?_
  conv => arg 7; simp [Act.put]
  refine wpAny_take (i := 21) (v := .bool true) rfl (by kernel_rfl) (by kernel_rfl) (by kernel_rfl) (fun _ _ _ h => h) (Or.inl ⟨by rfl, by intro w; go_simp⟩) ?_
  conv => arg 7; simp [Act.put]
  refine wpAny_take (i := 22) (v := .slice co3 0 c3) rfl (by kernel_rfl) (by kernel_rfl) (by kernel_rfl) (fun _ _ _ h => h) (Or.inl ⟨by rfl, by intro w; go_simp⟩) ?_
  conv => arg 7; simp [Act.put]
  refine wpAny_take (i := 23) (v := .int .i64 0) rfl (by kernel_rfl) (by kernel_rfl) (by kernel_rfl) (fun _ _ _ h => h) (Or.inl ⟨by rfl, by intro w; go_simp⟩) ?_
  conv => arg 7; simp [Act.put]
  refine wpAny_take (i := 24) (v := .bool true) rfl (by kernel_rfl) (by kernel_rfl) (by kernel_rfl) (fun _ _ _ h => h) (Or.inl ⟨by rfl, by intro w; go_simp⟩) ?_
  conv => arg 7; simp [Act.put]
  refine wpAny_take (i := 25) (v := .bool true) rfl (by kernel_rfl) (by kernel_rfl) (by kernel_rfl) (fun _ _ _ h => h) (Or.inl ⟨by rfl, by intro w; go_simp⟩) ?_
  conv => arg 7; simp [Act.put]
  refine wpAny_take (i := 26) (v := .bool true) rfl (by kernel_rfl) (by kernel_rfl) (by kernel_rfl) (fun _ _ _ h => h) (Or.inl ⟨by rfl, by intro w; go_simp⟩) ?_
  conv => arg 7; simp [Act.put]
  refine wpAny_ready (rs := [27, 29]) (by kernel_rfl) (by simp) ?_
  refine AllReady.cons rfl (fun K hK => ?_) (AllReady.cons rfl (fun K hK => ?_) AllReady.nil)
  · go_simp
    refine hK _ _ ?_
    clear hK K
    conv => arg 7; simp [Act.put]
    refine wpAny_ready (rs := [28, 29]) (by kernel_rfl) (by simp) ?_
    refine AllReady.cons rfl (fun K hK => ?_) (AllReady.cons rfl (fun K hK => ?_) AllReady.nil)
    · go_simp
      go_wp2_with (go_at_call 22; refine (all_any _ _ _ _ _ rsd).mono ?_; rintro e w4 ⟨B1, B2, co4, c4, rfl, hq4, hf4, hB1, hB2, hb4⟩; have cs4 := (bsd.kept (grown_of_below hb4) (by simp)).cell; have rs4 := rsd.below hb4 (Nat.le_refl _); have br4 := brd.kept (grown_of_below hb4) (by simp); have bw4 := bt bwd hb4 bwd.size)
      conv => arg 7; simp [Act.put]
      refine wpAny_ready (rs := [29]) (by kernel_rfl) (by simp) ?_
      refine AllReady.cons rfl (fun K hK => ?_) AllReady.nil
      go_simp
      refine hK _ _ ?_
      clear hK K
      conv => arg 7; simp [Act.put]
      refine wpAny_ready (rs := [30]) (by kernel_rfl) (by simp) ?_
      refine AllReady.cons rfl (fun K hK => ?_) AllReady.nil
      go_simp
      go_wp2_with (go_at_call 21; refine (walks_any _ _ _ _ _ rs4 _ _ _ _ hq4 0 (by omega) (by omega)).mono ?_; rintro e w5 ⟨rfl, hb5⟩; have br5 := br4.kept (grown_of_below hb5) (by simp); have cr5 := br5.cell; have zr5 := br5.frozen; have bw5 := bt bw4 hb5 bw4.size)
      conv => arg 7; simp [Act.put]
      refine wpAny_take (i := 31) (v := .bool true) rfl (by kernel_rfl) (by kernel_rfl) (by kernel_rfl) (fun _ _ _ h => h) (Or.inl ⟨by rfl, by intro w; go_simp⟩) ?_
      conv => arg 7; simp [Act.put]
      refine wpAny_ready (rs := [32]) (by kernel_rfl) (by simp) ?_
      refine AllReady.cons rfl (fun K hK => ?_) AllReady.nil
      go_simp
      refine hK _ _ ?_
      clear hK K
      conv => arg 7; simp [Act.put]
      refine wpAny_done (by kernel_rfl) ?_ _
      refine a0 _ _ ?_
      have cF := (br5.set (.bool true)).cell
      go_wp2
      exact bodyPost_ret (v := .bool true) (by simp [results, Try.results5, go_sem, cF]) rfl ⟨rfl, bw5.setCell (p := ⟨w.heap.size + 1, 0, none⟩) (by simp) _⟩
    · go_simp
      refine hK _ _ ?_
      clear hK K
      conv => arg 7; simp [Act.put]
      refine wpAny_ready (rs := [28]) (by kernel_rfl) (by simp) ?_
      refine AllReady.cons rfl (fun K hK => ?_) AllReady.nil
      go_simp
      go_wp2_with (go_at_call 22; refine (all_any _ _ _ _ _ rsd).mono ?_; rintro e w4 ⟨B1, B2, co4, c4, rfl, hq4, hf4, hB1, hB2, hb4⟩; have cs4 := (bsd.kept (grown_of_below hb4) (by simp)).cell; have rs4 := rsd.below hb4 (Nat.le_refl _); have br4 := brd.kept (grown_of_below hb4) (by simp); have bw4 := bt bwd hb4 bwd.size)
      conv => arg 7; simp [Act.put]
      refine wpAny_ready (rs := [30]) (by kernel_rfl) (by simp) ?_
      refine AllReady.cons rfl (fun K hK => ?_) AllReady.nil
      go_simp
      go_wp2_with (go_at_call 21; refine (walks_any _ _ _ _ _ rs4 _ _ _ _ hq4 0 (by omega) (by omega)).mono ?_; rintro e w5 ⟨rfl, hb5⟩; have br5 := br4.kept (grown_of_below hb5) (by simp); have cr5 := br5.cell; have zr5 := br5.frozen; have bw5 := bt bw4 hb5 bw4.size)
      conv => arg 7; simp [Act.put]
      refine wpAny_take (i := 31) (v := .bool true) rfl (by kernel_rfl) (by kernel_rfl) (by kernel_rfl) (fun _ _ _ h => h) (Or.inl ⟨by rfl, by intro w; go_simp⟩) ?_
      conv => arg 7; simp [Act.put]
      refine wpAny_ready (rs := [32]) (by kernel_rfl) (by simp) ?_
      refine AllReady.cons rfl (fun K hK => ?_) AllReady.nil
      go_simp
      refine hK _ _ ?_
      clear hK K
      conv => arg 7; simp [Act.put]
      refine wpAny_done (by kernel_rfl) ?_ _
      refine a0 _ _ ?_
      have cF := (br5.set (.bool true)).cell
      go_wp2
      exact bodyPost_ret (v := .bool true) (by simp [results, Try.results5, go_sem, cF]) rfl ⟨rfl, bw5.setCell (p := ⟨w.heap.size + 1, 0, none⟩) (by simp) _⟩
  · go_simp
    refine hK _ _ ?_
    clear hK K
    conv => arg 7; simp [Act.put]
    refine wpAny_ready (rs := [27]) (by kernel_rfl) (by simp) ?_
    refine AllReady.cons rfl (fun K hK => ?_) AllReady.nil
    go_simp
    refine hK _ _ ?_
    clear hK K
    conv => arg 7; simp [Act.put]
    refine wpAny_ready (rs := [28]) (by kernel_rfl) (by simp) ?_
    refine AllReady.cons rfl (fun K hK => ?_) AllReady.nil
    go_simp
    go_wp2_with (go_at_call 22; refine (all_any _ _ _ _ _ rsd).mono ?_; rintro e w4 ⟨B1, B2, co4, c4, rfl, hq4, hf4, hB1, hB2, hb4⟩; have cs4 := (bsd.kept (grown_of_below hb4) (by simp)).cell; have rs4 := rsd.below hb4 (Nat.le_refl _); have br4 := brd.kept (grown_of_below hb4) (by simp); have bw4 := bt bwd hb4 bwd.size)
    conv => arg 7; simp [Act.put]
    refine wpAny_ready (rs := [30]) (by kernel_rfl) (by simp) ?_
    refine AllReady.cons rfl (fun K hK => ?_) AllReady.nil
    go_simp
    go_wp2_with (go_at_call 21; refine (walks_any _ _ _ _ _ rs4 _ _ _ _ hq4 0 (by omega) (by omega)).mono ?_; rintro e w5 ⟨rfl, hb5⟩; have br5 := br4.kept (grown_of_below hb5) (by simp); have cr5 := br5.cell; have zr5 := br5.frozen; have bw5 := bt bw4 hb5 bw4.size)
    conv => arg 7; simp [Act.put]
    refine wpAny_take (i := 31) (v := .bool true) rfl (by kernel_rfl) (by kernel_rfl) (by kernel_rfl) (fun _ _ _ h => h) (Or.inl ⟨by rfl, by intro w; go_simp⟩) ?_
    conv => arg 7; simp [Act.put]
    refine wpAny_ready (rs := [32]) (by kernel_rfl) (by simp) ?_
    refine AllReady.cons rfl (fun K hK => ?_) AllReady.nil
    go_simp
    refine hK _ _ ?_
    clear hK K
    conv => arg 7; simp [Act.put]
    refine wpAny_done (by kernel_rfl) ?_ _
    refine a0 _ _ ?_
    have cF := (br5.set (.bool true)).cell
    go_wp2
    exact bodyPost_ret (v := .bool true) (by simp [results, Try.results5, go_sem, cF]) rfl ⟨rfl, bw5.setCell (p := ⟨w.heap.size + 1, 0, none⟩) (by simp) _⟩
end Go.Proofs.Ytedidfjonkepoaa
