/- The walk of the law ArrItems, of an array that may be. -/
import Derived.Test.YtaobchjdeeijcaaB5
namespace Go.Proofs.Ytaobchjdeeijcaa
open Go.RowKit
set_option linter.unusedVariables false

theorem Bx.drewN {W : World} {g : Nat} {so : Option Addr} {sn sc : Nat} {ao : Option Addr} {an ac : Nat} {sh at' : List Int} (h : Bx W g so sn sc ao an ac sh at') (q : Nat) : Bx (W.drewN q) g so sn sc ao an ac sh at' := h.below (below_drewN (Below.refl _ W) q)
/-- A box and its lists ahead of a mark stay where only what is behind the mark changes. -/
theorem Bx.low {W W' : World} {B g : Nat} {so : Option Addr} {sn sc : Nat} {ao : Option Addr} {an ac : Nat} {sh at' : List Int} (h : Bx W g so sn sc ao an ac sh at') (k : Below B W W') (hg : g < B) (hs : 0 < sn → ∀ b off, so = some ⟨b, off, none⟩ → b < B) (ha : 0 < an → ∀ b off, ao = some ⟨b, off, none⟩ → b < B) : Bx W' g so sn sc ao an ac sh at' := by
  have low : ∀ {o : Option Addr} {n : Nat} {zs : List Int}, Rd W o n zs → (0 < n → ∀ b off, o = some ⟨b, off, none⟩ → b < B) → Rd W' o n zs := by
    intro o n zs r hb
    refine ⟨r.len, r.room, r.num, fun hn => ?_⟩
    obtain ⟨b, off, e, hl, hc⟩ := r.cells hn
    exact ⟨b, off, e, Nat.lt_of_lt_of_le hl k.size, fun j hj => (k.cell (p := ⟨b, off + j, none⟩) (hb hn b off e)).trans (hc j hj)⟩
  exact ⟨(k.cell (p := ⟨g, 0, none⟩) hg).trans h.c0, (k.cell (p := ⟨g, 1, none⟩) hg).trans h.c1, low h.s hs, low h.a ha⟩

set_option maxHeartbeats 20000000 in
set_option maxRecDepth 20000 in
theorem arrItems_A (so ao : Option Addr) (sn sc an ac : Nat) (sh at' : List Int) (w : World) (h : Rd w so sn sh) (hs : Sl so sn sc) (g : Rd w ao an at') (gs : Sl ao an ac) (h0 : mayA sh at' = 0) (hcase : sn = 0) :
    Calls Try.prog 6 #[.agg #[.slice so sn sc, .slice ao an ac]] w fun e w' => e = .returned (.bool true) ∧ Below w.heap.size w w' := by
  have k0 := box_below w (.cells #[.slice so sn sc, .slice ao an ac] 55)
  have b0 := bx_first (sc := sc) (ac := ac) h g
  have hsl := fun h0 => h.lt h0
  have hal := fun h0 => g.lt h0
  have HSL : Hid (sh.length = sn) := h.len
  have HAL : Hid (at'.length = an) := g.len
  have hroom := h.room
  obtain ⟨m1, m2⟩ := mayA_zero h0
  have tb := tal_bd m1
  have ha4 := at_len h0
  obtain ⟨N, hN⟩ : ∃ N : Nat, tal sh = N := ⟨(tal sh).toNat, by omega⟩
  obtain ⟨z, hz⟩ : ∃ z, itmZ sh at' = z := ⟨_, rfl⟩
  obtain ⟨t1, t2⟩ := items_all h0 hN hz
  have hN4 : N ≤ 4096 := by omega
  have cm := fun W (x : Rd W so sn sh) (y : Rd W ao an at') => mayA_any so ao sn sc an ac sh at' W x y
  rw [h0] at cm
  have ci := fun W (x : Rd W so sn sh) (y : Rd W ao an at') => items_any so ao sn sc an ac sh at' W x y
  rw [show itm sh at' = tal sh from if_pos h0, hN] at ci
  have ct := fun W (x : Rd W so sn sh) (y : Rd W ao an at') k hk i hi => item_at so ao sn sc an ac sh at' W x hs y gs h0 hN hz k hk i hi
  have cb := fun W (x : Rd W so sn sh) (y : Rd W ao an at') i hi => item_beyond so ao sn sc an ac sh at' W x hs y gs h0 hN i hi
  have cx : ∀ k, k < N → ∀ W o1 c1 o2 c2, Rd W o1 (sn - 1) (sh.drop 1) → Rd W o2 z ((at'.drop (k * z)).take z) → Calls Try.prog 20 #[.agg #[.slice o1 (sn - 1) c1, .slice o2 z c2]] W fun e w' => e = .returned (.int .i64 0) ∧ Below W.heap.size W w' := fun k hk W o1 c1 o2 c2 x y => by
    have := mayA_any o1 o2 (sn - 1) c1 z c2 _ _ W x y
    rwa [mayA_ok (mayF_tail m1) (by rw [part_len t1 hk, t2 (by omega)])] at this
  have cs : ∀ k W o1 c1 o2 c2 o3 c3 o4 c4, Rd W o1 (sn - 1) (sh.drop 1) → Rd W o2 z ((at'.drop (k * z)).take z) → Rd W o3 (sn - 1) (sh.drop 1) → Rd W o4 z ((at'.drop (k * z)).take z) → Calls Try.prog 23 #[.agg #[.slice o1 (sn - 1) c1, .slice o2 z c2], .agg #[.slice o3 (sn - 1) c3, .slice o4 z c4]] W fun e w' => e = .returned (.bool true) ∧ Below W.heap.size W w' := fun k W o1 c1 o2 c2 o3 c3 o4 c4 r1 r2 r3 r4 => by
    have := same_any o1 o2 o3 o4 (sn - 1) c1 z c2 (sn - 1) c3 z c4 _ _ _ _ W r1 r2 r3 r4
    rwa [eqA_refl] at this
  have HT : Hid (N * z = at'.length) := t1
  have hzle : 1 ≤ N → z ≤ at'.length := fun h1 => by rw [← t1]; exact Nat.le_mul_of_pos_left _ h1
  subst hcase
  have e1 : sh = [] := List.eq_nil_of_length_eq_zero HSL.out
  obtain rfl : N = 1 := by rw [e1] at hN; simp [tal] at hN; omega
  clear e1
  simp only [Nat.zero_sub] at ct cx cs
  clear m1 m2 tb h0 hN hz t1 t2 h g
  go_enter Try.func6, Try.ntmps6
  go_wp2_with (first
    | (go_at_call 18; refine (begun3_any _).mono ?_; rintro e w1 ⟨rfl, k1⟩; have b1 := b0.below k1; have X1 := b1.c0; have X2 := b1.c1; have bel := btw k0 k1 (by simp); have hs1 := k1.size; simp only [World.size_alloc] at hs1; clear k1)
    | (go_at_call 20; refine (cm _ b1.s b1.a).mono ?_; rintro e w2 ⟨rfl, k2⟩; have b2 := b1.below k2; have X3 := b2.c0; have X4 := b2.c1; have bel2 := btw bel k2 bel.size; have hs2 := k2.size; clear k2)
    | (go_at_call 22; refine (ci _ b2.s b2.a).mono ?_; rintro e w3 ⟨rfl, k3⟩; have b3 := b2.below k3; have X5 := b3.c0; have X6 := b3.c1; have bel3 := btw bel2 k3 bel2.size; have hs3 := k3.size; clear k3))
  obtain ⟨B, hB⟩ : ∃ B, B = w.heap.size + 1 := ⟨_, rfl⟩
  have F3 : Ft 2 w3 B none 0 0 [] := Ft.nil _ _ _
  have hB3 : B ≤ w3.heap.size := by omega
  have HB : Hid (B = w.heap.size + 1) := hB
  clear hB b0 b1 b2 X1 X2 X3 X4 bel bel2 k0 cm ci
  go_loopw [6, 7] (fun l i wr => ∃ (k : Nat) (co : Option Addr) (n c : Nat), k ≤ 1 ∧ i = .int .i64 (k : Nat) ∧ l = .slice co n c ∧ Hid (n = k * z) ∧ Ft 2 wr B co n c (at'.take (k * z)) ∧ Bx wr w.heap.size so (0) sc ao an ac sh at' ∧ Below w.heap.size w wr ∧ B ≤ wr.heap.size) (fun _ i _ => 1 - (intOf i).toNat)
  case atStart => exact ⟨0, none, 0, 0, Nat.zero_le _, rfl, rfl, by show _ = _; simp, by simpa using F3, b3, bel3, hB3⟩
  case round =>
    obtain ⟨k, co, n, c, hk, rfl, rfl, HK, FK, BK, belK, sizK⟩ := hrel
    clear b3 X5 X6 bel3 F3 hB3
    have Y1 := BK.c0
    have Y2 := BK.c1
    by_cases hlt : k < 1
    · have hki : (k : Int) < (1 : Nat) := by omega
      have cs' := cs k
      have cx' := cx k hlt
      have hz4 := hzle (by omega)
      clear cs cx
      go_wp2_with (first
        | (go_at_call 21; (with_reducible refine (ct _ BK.s BK.a k hlt _ (by omega)).mono ?_); rintro e w4 ⟨o1, c1, o2, c2, rfl, r1, r2, s2, k4⟩; have k4b := box_below w4 (.cells #[.slice o1 (0) c1, .slice o2 z c2] 55); have B4 := (BK.below k4).below k4b; have P1 := B4.c0; have P2 := B4.c1; have x4 := bx_new (sc := c1) (ac := c2) r1 r2; have F4 := (FK.below k4 (Nat.le_refl _)).below k4b (Nat.le_refl _); have bel4 := btw (btw belK k4 belK.size) k4b (by have := belK.size; have := k4.size; omega); have sz4 := k4.size)
        | (go_at_call 21; (with_reducible refine (ct _ B4.s B4.a k hlt _ (by omega)).mono ?_); rintro e w5 ⟨o3, c3, o4, c4, rfl, r3, r4, s4, k5⟩; have k5b := box_below w5 (.cells #[.slice o3 (0) c3, .slice o4 z c4] 55); have B5 := (B4.below k5).below k5b; have Q1 := B5.c0; have Q2 := B5.c1; have x5 := (x4.below k5).below k5b; have X51 := x5.c0; have X52 := x5.c1; have y5 := bx_new (sc := c3) (ac := c4) r3 r4; have F5 := (F4.below k5 (Nat.le_refl _)).below k5b (Nat.le_refl _); have bel5 := btw (btw bel4 k5 bel4.size) k5b (by have := bel4.size; have := k5.size; omega); have sz5 := k5.size; simp only [World.size_alloc] at sz5)
        | (go_at_call 23; refine (cs' _ _ _ _ _ _ _ _ _ x5.s x5.a y5.s y5.a).mono ?_; rintro e w6 ⟨rfl, k6⟩; have B6 := B5.below k6; have x6 := x5.below k6; have R1 := B6.c0; have R2 := B6.c1; have R3 := x6.c0; have R4 := x6.c1; have F6 := F5.below k6 (Nat.le_refl _); have bel6 := btw bel5 k6 bel5.size; have sz6 := k6.size; simp only [World.size_alloc] at sz6)
        | (go_at_call 20; refine (cx' _ _ _ _ _ x6.s x6.a).mono ?_; rintro e w7 ⟨rfl, k7⟩; have B7 := B6.below k7; have x7 := x6.below k7; have R5 := B7.c0; have R6 := B7.c1; have R7 := x7.c0; have R8 := x7.c1; have F7 := F6.below k7 (Nat.le_refl _); have bel7 := btw bel6 k7 bel6.size; have sz7 := k7.size))
      clear B4 B5 B6 x4 x5 x6 y5 P1 P2 Q1 Q2 X51 X52 R1 R2 R3 R4 F4 F5 F6 FK BK Y1 Y2 bel4 bel5 bel6 belK k4 k4b k5 k5b k6 k7 r1 r2 r3 r4
      go_loopw [12] (fun i ws => ∃ j : Nat, j ≤ 0 ∧ i = .int .i64 (j : Nat) ∧ ∃ q, ws = w7.drewN q) (fun i _ => (0) - (intOf i).toNat)
      case atStart => exact ⟨0, Nat.zero_le _, rfl, 0, rfl⟩
      case round =>
        obtain ⟨j, hj, rfl, q, rfl⟩ := hrel
        by_cases hlt2 : j < 0
        · exact absurd hlt2 (Nat.not_lt_zero _)
        · obtain rfl : j = 0 := by omega
          have B8 := B7.drewN q
          have x8 := x7.drewN q
          have F8 : Ft 2 (w7.drewN q) B co n c (at'.take (k * z)) := F7.below (below_drewN (Below.refl _ w7) q) (Nat.le_refl _)
          have bel8 := below_drewN bel7 q
          have hnr : (n + z) * 8 ≤ 140737488351232 := by
            have e1 := HK.out
            have e2 := HT.out
            have e3 : (k + 1) * z ≤ 1 * z := Nat.mul_le_mul_right _ (by omega)
            rw [Nat.add_mul, Nat.one_mul] at e3
            omega
          go_wp2_with (at_builtin; refine wpList_joinT tyL rfl _ _ rfl B _ _ _ _ _ _ _ _ rfl rfl F8 x8.a s2 hnr (by simp; omega) ?_; intro co9 c9 w9 F9 k9)
          go_roundw
          case rel =>
            have e1 := HK.out
            refine ⟨k + 1, co9, n + z, c9, by omega, by go_num, rfl, by show _ = _; rw [e1, Nat.add_mul, Nat.one_mul], by rw [← part_more]; exact F9, B8.low k9 (by have := HB.out; omega) (fun h0 b off e => ?_) (fun h0 b off e => ?_), ?_, ?_⟩
            · have := hsl h0 b off e; have := HB.out; omega
            · have := hal h0 b off e; have := HB.out; omega
            · exact bel8.trans (k9.mono (by have := HB.out; omega))
            · have := k9.size; simp at this; omega
          case measure => simp [intOf]; omega
    · obtain rfl : k = 1 := by omega
      have hat : at'.take (1 * z) = at' := by rw [HT.out, List.take_length]
      rw [hat] at FK
      clear hat
      go_wp2_with (first
        | (go_at_call 21; (with_reducible refine (cb _ BK.s BK.a _ (by omega)).mono ?_); rintro e w4 ⟨o1, n1, c1, o2, n2, c2, rfl, k4⟩; have k4b := box_below w4 (.cells #[.slice o1 n1 c1, .slice o2 n2 c2] 55); have B4 := (BK.below k4).below k4b; have P1 := B4.c0; have P2 := B4.c1; have F4 := (FK.below k4 (Nat.le_refl _)).below k4b (Nat.le_refl _); have bel4 := btw (btw belK k4 belK.size) k4b (by have := belK.size; have := k4.size; omega))
        | (go_at_call 21; (with_reducible refine (cb _ B4.s B4.a _ (by omega)).mono ?_); rintro e w5 ⟨o3, n3, c3, o4, n4, c4, rfl, k5⟩; have k5b := box_below w5 (.cells #[.slice o3 n3 c3, .slice o4 n4 c4] 55); have B5 := (B4.below k5).below k5b; have Q1 := B5.c0; have Q2 := B5.c1; have F5 := (F4.below k5 (Nat.le_refl _)).below k5b (Nat.le_refl _); have bel5 := btw (btw bel4 k5 bel4.size) k5b (by have := bel4.size; have := k5.size; omega))
        | (go_at_call 24; refine (eq_same _ _ _ _ _ _ _ _ _ _ _ _ _ _ _ (Rd.nil _) F5.rd (Rd.nil _) B5.a).mono ?_; rintro e w6 ⟨rfl, k6⟩; have bel6 := btw bel5 k6 bel5.size))
      go_ret
      exact ⟨rfl, bel6⟩

end Go.Proofs.Ytaobchjdeeijcaa
