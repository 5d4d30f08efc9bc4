
/- Answers are new memory: the walk. -/

import Derived.Test.YtlajainnpnbcaaaSFq

import Derived.Test.YtlajainnpnbcaaaYQ

namespace Go.Proofs.Ytlajainnpnbcaaa

open Go.RowKit

set_option linter.unusedVariables false

set_option maxRecDepth 20000 in
set_option maxHeartbeats 16000000 in
theorem afresh_walk (b off len cap : Nat) (q : Nat → OpQ) (w : World) (hb : b < w.heap.size) (hlen : len ≤ 9223372036854775807)
    (hc : ∀ i, i < len → w.cell? ⟨b, off + i * 7, none⟩ = some (.int .i64 (q i).K) ∧ w.cell? ⟨b, off + i * 7 + 1, none⟩ = some (.int .i64 (q i).O) ∧ w.cell? ⟨b, off + i * 7 + 2, none⟩ = some (.int .i64 (q i).N) ∧ w.cell? ⟨b, off + i * 7 + 3, none⟩ = some (.slice (q i).so (q i).sn (q i).sc) ∧ w.cell? ⟨b, off + i * 7 + 4, none⟩ = some (.slice (q i).ao (q i).an (q i).ac) ∧ w.cell? ⟨b, off + i * 7 + 5, none⟩ = some (.slice (q i).uo (q i).tn (q i).tc) ∧ w.cell? ⟨b, off + i * 7 + 6, none⟩ = some (.slice (q i).bo (q i).bn (q i).bc))
    (hr : ∀ i, i < len → OkQ w (q i)) :
    Calls Try.prog 3 #[.slice (some ⟨b, off, none⟩) len cap] w fun e w' => e = .returned (.bool true) ∧ Below w.heap.size w w' := by
  have cG := begun7_any w
  have HC : Hid (∀ (V : World) (i : Nat), Below w.heap.size w V → i < len → (V.cell? ⟨b, off + i * 7, none⟩ = some (.int .i64 (q i).K) ∧ V.cell? ⟨b, off + i * 7 + 1, none⟩ = some (.int .i64 (q i).O) ∧ V.cell? ⟨b, off + i * 7 + 2, none⟩ = some (.int .i64 (q i).N) ∧ V.cell? ⟨b, off + i * 7 + 3, none⟩ = some (.slice (q i).so (q i).sn (q i).sc) ∧ V.cell? ⟨b, off + i * 7 + 4, none⟩ = some (.slice (q i).ao (q i).an (q i).ac) ∧ V.cell? ⟨b, off + i * 7 + 5, none⟩ = some (.slice (q i).uo (q i).tn (q i).tc) ∧ V.cell? ⟨b, off + i * 7 + 6, none⟩ = some (.slice (q i).bo (q i).bn (q i).bc)) ∧ OkQ V (q i)) := fun V i k hi => by
    have key : ∀ j, V.cell? ⟨b, j, none⟩ = w.cell? ⟨b, j, none⟩ := fun j => World.cell?_of_block (w := w) (k.block b hb)
    obtain ⟨h0, h1, h2, h3, h4, h5, h6⟩ := hc i hi
    exact ⟨⟨(key _).trans h0, (key _).trans h1, (key _).trans h2, (key _).trans h3, (key _).trans h4, (key _).trans h5, (key _).trans h6⟩, (hr i hi).below k⟩
  clear hc hr hb
  go_enter Try.func3, Try.ntmps3
  go_upto_region 4 with (go_at_call 4; (with_reducible refine cG.mono ?_); rintro e w1 ⟨rfl, b1⟩)
  have bA := box_below w1 (.cells #[.slice none 0 0, .slice none 0 0, .int .i64 0] 28)
  have nA := allocNew w1 (.cells #[.slice none 0 0, .slice none 0 0, .int .i64 0] 28)
  have bS := box_below (w1.alloc (.cells #[.slice none 0 0, .slice none 0 0, .int .i64 0] 28)) (.cells #[.slice none 0 0, .slice none 0 0, .int .i64 0] 32)
  have nS := allocNew (w1.alloc (.cells #[.slice none 0 0, .slice none 0 0, .int .i64 0] 28)) (.cells #[.slice none 0 0, .slice none 0 0, .int .i64 0] 32)
  rw [World.size_alloc] at nS
  have s1 := b1.size
  have A0 : Aq w w1.heap.size (w1.heap.size + 1) (w1.heap.size + 2) ((w1.alloc (.cells #[.slice none 0 0, .slice none 0 0, .int .i64 0] 28)).alloc (.cells #[.slice none 0 0, .slice none 0 0, .int .i64 0] 32)) := by
    refine ⟨fun g => g = w1.heap.size, fun g => g = w1.heap.size + 1, none, none, 0, 0, 0, 0, [], [], none, none, 0, 0, 0, 0, [], [], [], ?_, ?_, fun g e => ⟨by omega, by omega, by omega⟩, fun g e => ⟨by omega, by omega⟩, by simp, b1.trans ((bA.trans (bS.mono bA.size)).mono s1)⟩
    · exact ⟨(bS.block _ (Array.getElem?_eq_some_iff.1 nA).1).trans nA, rfl, rfl, World.ownsRow_nil _ _ _ _, World.ownsRow_nil _ _ _ _, ⟨fun i v hi => by simp at hi, fun i j v u g hi => by simp at hi⟩, ⟨fun i v hi => by simp at hi, fun i j v u g hi => by simp at hi⟩, rfl, fun g hg => by simp [Value.ownBlock] at hg, fun g hg => by simp [Value.ownBlock] at hg, fun i v g hi => by simp at hi, fun i v g hi => by simp at hi, by simp, by simp, by simp⟩
    · exact ⟨nS, rfl, rfl, rfl, World.ownsRow_nil _ _ _ _, World.ownsRow_nil _ _ _ _, fun g hg => by simp [Value.ownBlock] at hg, fun i v hi => by simp at hi, fun i v hi => by simp at hi, fun i j v u hi => by simp at hi, fun i j v u hi => by simp at hi, rfl, fun g hg => by simp [Value.ownBlock] at hg, fun g hg => by simp [Value.ownBlock] at hg, fun i v hi => by simp at hi, fun i v hi => by simp at hi, by simp, by simp, by simp⟩
  have A1 : ∃ C, Aq w w1.heap.size (w1.heap.size + 1) C ((w1.alloc (.cells #[.slice none 0 0, .slice none 0 0, .int .i64 0] 28)).alloc (.cells #[.slice none 0 0, .slice none 0 0, .int .i64 0] 32)) := ⟨_, A0⟩
  clear A0 bA nA bS nS s1 b1 cG
  generalize w1.heap.size + 1 = sb at *
  generalize w1.heap.size = bb at *
  generalize (w1.alloc (.cells #[.slice none 0 0, .slice none 0 0, .int .i64 0] 28)).alloc (.cells #[.slice none 0 0, .slice none 0 0, .int .i64 0] 32) = W0 at *
  go_wp2_with fail
  go_loopg [5] len (fun g s5 wr => ∃ k : Nat, k ≤ len ∧ g = len - k ∧ s5 = .int .i64 (k : Nat) ∧ ∃ C, Aq w bb sb C wr)
  case atStart => exact ⟨0, Nat.zero_le _, rfl, rfl, A1⟩
  case round =>
    clear A1
    obtain ⟨k, hk, rfl, rfl, C0, hA0⟩ := hrel
    by_cases hlt : k < len
    · have t1 : decide ((k : Int) < (len : Int)) = true := by simp [hlt]
      have t1' : (k : Int) < (len : Int) := by omega
      have hA := hA0.next
      obtain ⟨⟨c0, c1, c2, c3, c4, c5, c6⟩, hok⟩ := HC.out wr k hA.bel.1 hlt
      have HCk : Hid (∀ V, Below w.heap.size w V → (V.cell? ⟨b, off + k * 7, none⟩ = some (.int .i64 (q k).K) ∧ V.cell? ⟨b, off + k * 7 + 1, none⟩ = some (.int .i64 (q k).O) ∧ V.cell? ⟨b, off + k * 7 + 2, none⟩ = some (.int .i64 (q k).N) ∧ V.cell? ⟨b, off + k * 7 + 3, none⟩ = some (.slice (q k).so (q k).sn (q k).sc) ∧ V.cell? ⟨b, off + k * 7 + 4, none⟩ = some (.slice (q k).ao (q k).an (q k).ac) ∧ V.cell? ⟨b, off + k * 7 + 5, none⟩ = some (.slice (q k).uo (q k).tn (q k).tc) ∧ V.cell? ⟨b, off + k * 7 + 6, none⟩ = some (.slice (q k).bo (q k).bn (q k).bc)) ∧ OkQ V (q k)) := fun V hV => HC.out V k hV hlt
      generalize q k = Q at *
      obtain ⟨KK, O, N, so, sn, sc, ao, an, ac, uo, tn, tc, bo, bn, bc, s, a, t, bs⟩ := Q
      have HL : Hid (k < len ∧ len ≤ 9223372036854775807) := ⟨hlt, hlen⟩
      clear hA0
      go_upto_region 8 with fail
      have bA := box_below wr (.cells #[.int .i64 KK, .int .i64 O, .int .i64 N, .slice so sn sc, .slice ao an ac, .slice uo tn tc, .slice bo bn bc] 38)
      have nA := allocNew wr (.cells #[.int .i64 KK, .int .i64 O, .int .i64 N, .slice so sn sc, .slice ao an ac, .slice uo tn tc, .slice bo bn bc] 38)
      have A1 := hA.below bA
      have hok1 := hok.below bA
      clear hA hok c0 c1 c2 c3 c4 c5 c6
      have HA1 : Hid (Aq w bb sb wr.heap.size (wr.alloc (.cells #[.int .i64 KK, .int .i64 O, .int .i64 N, .slice so sn sc, .slice ao an ac, .slice uo tn tc, .slice bo bn bc] 38))) := A1
      have HCp : Hid (wr.heap.size = wr.heap.size) := rfl
      have hp : wr.heap.size < (wr.alloc (.cells #[.int .i64 KK, .int .i64 O, .int .i64 N, .slice so sn sc, .slice ao an ac, .slice uo tn tc, .slice bo bn bc] 38)).heap.size := by simp
      generalize wr.alloc (.cells #[.int .i64 KK, .int .i64 O, .int .i64 N, .slice so sn sc, .slice ao an ac, .slice uo tn tc, .slice bo bn bc] 38) = W1 at *
      generalize wr.heap.size = p at *
      obtain ⟨d0, d1, d2, d3, d4, d5, d6, df⟩ := seven nA
      by_cases hK : KK = 2 ∨ KK = 3
      · go_cut [40] from 33 to 40 (fun s40 V => s40 = .bool false ∧ V = W1)
        case first =>
          rcases hK with rfl | rfl
          · go_wp2
            go_meet
            case rel => exact ⟨rfl, rfl⟩
          · go_wp2
            go_meet
            case rel => exact ⟨rfl, rfl⟩
        case rest =>
        obtain ⟨rfl, hV⟩ := hcut
        subst hV
        have HK : Hid (KK = 2 ∨ KK = 3) := hK
        clear hK
        have cS1 := short_any so ao sn sc an ac wc
        have cS2 := fun V => short_any uo bo tn tc bn bc V
        by_cases h1 : shb sn an = true
        · by_cases h2 : shb tn bn = true
          · rw [h1] at cS1
            simp only [h2] at cS2
            go_upto_region 10 with (first
              | (go_at_call 5; (with_reducible refine cS1.mono ?_); rintro e w2 ⟨rfl, b2⟩; have n2 := (b2.block p hp).trans nA; obtain ⟨f0, f1, f2, f3, f4, f5, f6, ff⟩ := seven n2)
              | (go_at_call 5; (with_reducible refine (cS2 _).mono ?_); rintro e w3 ⟨rfl, b3⟩))
            have b13 := b2.trans (b3.mono b2.size)
            have n3 := (b13.block p hp).trans nA
            have hp3 : p < w3.heap.size := Nat.lt_of_lt_of_le hp b13.size
            have A3 := HA1.out.below b13
            have hok3 := hok1.below b13
            obtain ⟨e0, e1, e2, e3, e4, e5, e6, ef⟩ := seven n3
            clear cS1 cS2 b2 b3 b13 n2 f0 f1 f2 f3 f4 f5 f6 ff d0 d1 d2 d3 d4 d5 d6 df nA hok1 HA1 hp h1 h2
            have HS0 : w3.drew.cell? ⟨p, 3, none⟩ = some (.slice so sn sc) ∧ w3.drew.cell? ⟨p, 4, none⟩ = some (.slice ao an ac) ∧ w3.drew.cell? ⟨p, 5, none⟩ = some (.slice uo tn tc) ∧ w3.drew.cell? ⟨p, 6, none⟩ = some (.slice bo bn bc) := ⟨e3, e4, e5, e6⟩
            have bd : Below w3.heap.size w3 w3.drew := (Below.refl _ _).drew
            have okd := hok3.below bd
            have cO1 := own_arr (.slice so sn sc, .slice ao an ac) (s, a) w3.drew ⟨_, _, _, _, _, _, rfl, okd.rs, okd.ss, okd.ra, okd.sa⟩
            have HO : Hid (∀ V, Below w3.heap.size w3 V → Calls Try.prog 6 #[.agg #[.slice uo tn tc, .slice bo bn bc]] V fun e w' => ∃ v, e = .returned (.agg #[v.1, v.2]) ∧ ArB w' V.heap.size v (t, bs) ∧ Below V.heap.size V w') := fun V hV => by
              have ok := hok3.below hV
              exact own_arr (.slice uo tn tc, .slice bo bn bc) (t, bs) V ⟨_, _, _, _, _, _, rfl, ok.rt, ok.st, ok.rb, ok.sb⟩
            clear okd hok3
            go_upto_region 10 with fail
            refine wp_region_R (fun V => V.cell? ⟨p, 3, none⟩ = some (.slice so sn sc) ∧ V.cell? ⟨p, 4, none⟩ = some (.slice ao an ac) ∧ V.cell? ⟨p, 5, none⟩ = some (.slice uo tn tc) ∧ V.cell? ⟨p, 6, none⟩ = some (.slice bo bn bc)) (fun i => decide (i < 7)) (by kernel_rfl) ?_
            refine wpAnyR_take (i := 0) (v := .pointer (some ⟨p, 3, none⟩)) rfl (by kernel_rfl) (by kernel_rfl) (by kernel_rfl) (by kernel_rfl) (fun _ _ _ h => h) (Or.inl ⟨by rfl, fun V hV => ?_⟩) ?_ ?_
            · obtain ⟨g0, g1, g2, g3⟩ := hV
              go_simp
            · exact HS0
            conv => arg 9; simp [Act.put]
            refine wpAnyR_take (i := 1) (v := .agg #[.slice so sn sc, .slice ao an ac]) rfl (by kernel_rfl) (by kernel_rfl) (by kernel_rfl) (by kernel_rfl) (fun _ _ _ h => h) (Or.inl ⟨by rfl, fun V hV => ?_⟩) ?_ ?_
            · obtain ⟨g0, g1, g2, g3⟩ := hV
              go_simp
            · exact HS0
            conv => arg 9; simp [Act.put]
            refine wpAnyR_take (i := 3) (v := .pointer (some ⟨p, 5, none⟩)) rfl (by kernel_rfl) (by kernel_rfl) (by kernel_rfl) (by kernel_rfl) (fun _ _ _ h => h) (Or.inl ⟨by rfl, fun V hV => ?_⟩) ?_ ?_
            · obtain ⟨g0, g1, g2, g3⟩ := hV
              go_simp
            · exact HS0
            conv => arg 9; simp [Act.put]
            refine wpAnyR_take (i := 4) (v := .agg #[.slice uo tn tc, .slice bo bn bc]) rfl (by kernel_rfl) (by kernel_rfl) (by kernel_rfl) (by kernel_rfl) (fun _ _ _ h => h) (Or.inl ⟨by rfl, fun V hV => ?_⟩) ?_ ?_
            · obtain ⟨g0, g1, g2, g3⟩ := hV
              go_simp
            · exact HS0
            conv => arg 9; simp [Act.put]
            refine wpAnyR_one (i := 2) (by kernel_rfl) rfl (fun K hK => ?_)
            go_simp
            go_at_call 6
            refine cO1.mono ?_
            rintro e w4 ⟨v, rfl, hX4, b4⟩
            obtain ⟨x1, xn1, xc1, x2, xn2, xc2, rfl, fx1, fx2⟩ := hX4
            have b34 := bd.trans (b4.mono bd.size)
            have n4 := (b34.block p hp3).trans n3
            obtain ⟨_, _, _, g3, g4, g5, g6, gf⟩ := seven n4
            have HS4 : w4.cell? ⟨p, 3, none⟩ = some (.slice so sn sc) ∧ w4.cell? ⟨p, 4, none⟩ = some (.slice ao an ac) ∧ w4.cell? ⟨p, 5, none⟩ = some (.slice uo tn tc) ∧ w4.cell? ⟨p, 6, none⟩ = some (.slice bo bn bc) := ⟨g3, g4, g5, g6⟩
            have cO2 := HO.out w4 b34
            refine hK _ _ ⟨fun _ => HS4, ?_⟩
            clear hK
            conv => arg 9; simp [Act.put]
            refine wpAnyR_take (i := 6) (v := .pointer (some ⟨p, 3, none⟩)) rfl (by kernel_rfl) (by kernel_rfl) (by kernel_rfl) (by kernel_rfl) (fun _ _ _ h => h) (Or.inl ⟨by rfl, fun V hV => ?_⟩) ?_ ?_
            · obtain ⟨g0, g1, g2, g3⟩ := hV
              go_simp
            · exact HS4
            conv => arg 9; simp [Act.put]
            refine wpAnyR_one (i := 5) (by kernel_rfl) rfl (fun K hK => ?_)
            go_simp
            go_at_call 6
            refine cO2.mono ?_
            rintro e w5 ⟨v, rfl, hY5, b5⟩
            obtain ⟨y1, yn1, yc1, y2, yn2, yc2, rfl, fy1, fy2⟩ := hY5
            have b35 := b34.trans (b5.mono b34.size)
            have n5 := (b35.block p hp3).trans n3
            obtain ⟨_, _, _, k3, k4, k5, k6, kf⟩ := seven n5
            have HS5 : w5.cell? ⟨p, 3, none⟩ = some (.slice so sn sc) ∧ w5.cell? ⟨p, 4, none⟩ = some (.slice ao an ac) ∧ w5.cell? ⟨p, 5, none⟩ = some (.slice uo tn tc) ∧ w5.cell? ⟨p, 6, none⟩ = some (.slice bo bn bc) := ⟨k3, k4, k5, k6⟩
            refine hK _ _ ⟨fun _ => HS5, ?_⟩
            clear hK
            conv => arg 9; simp [Act.put]
            refine wpAnyR_one (i := 7) (by kernel_rfl) rfl (fun K hK => ?_)
            go_simp
            refine hK _ _ ⟨fun h => absurd h (by decide), ?_⟩
            clear hK
            conv => arg 9; simp [Act.put]
            refine wpAnyR_one (i := 8) (by kernel_rfl) rfl (fun K hK => ?_)
            go_simp
            refine hK _ _ ⟨fun h => absurd h (by decide), ?_⟩
            clear hK
            conv => arg 9; simp [Act.put]
            refine wpAnyR_one (i := 9) (by kernel_rfl) rfl (fun K hK => ?_)
            go_simp
            refine hK _ _ ⟨fun h => absurd h (by decide), ?_⟩
            clear hK
            refine wpAnyR_done (by kernel_rfl) ?_ _
            have n6 := seven56 (x := .slice y1 yn1 yc1) (y := .slice y2 yn2 yc2) (seven34 (x := .slice x1 xn1 xc1) (y := .slice x2 xn2 xc2) n5)
            have K6 : Chg (fun g => g = p) w5 ((((w5.setCell ⟨p, 3, none⟩ (.slice x1 xn1 xc1)).setCell ⟨p, 4, none⟩ (.slice x2 xn2 xc2)).setCell ⟨p, 5, none⟩ (.slice y1 yn1 yc1)).setCell ⟨p, 6, none⟩ (.slice y2 yn2 yc2)) := ((Chg.of_grown (set2 w5 p 3 4 (.slice x1 xn1 xc1) (.slice x2 xn2 xc2))).trans (Chg.of_grown (set2 _ p 5 6 (.slice y1 yn1 yc1) (.slice y2 yn2 yc2)))).mono fun g _ e => (Option.some.inj e).symm
            have X5 : ArB w5 p (Value.slice x1 xn1 xc1, Value.slice x2 xn2 xc2) (s, a) := (show ArB w4 _ (Value.slice x1 xn1 xc1, Value.slice x2 xn2 xc2) (s, a) from ⟨_, _, _, _, _, _, rfl, fx1, fx2⟩).below b5 |>.mono (Nat.le_of_lt hp3)
            have Y5 : ArB w5 p (Value.slice y1 yn1 yc1, Value.slice y2 yn2 yc2) (t, bs) := (show ArB w5 _ (Value.slice y1 yn1 yc1, Value.slice y2 yn2 yc2) (t, bs) from ⟨_, _, _, _, _, _, rfl, fy1, fy2⟩).mono (Nat.le_of_lt (Nat.lt_of_lt_of_le hp3 b34.size))
            have nk : ∀ {x : Value × Value} {z : List Int × List Int}, Arw w5 x z → Inn (fun g => ¬ (g = p)) x := fun hz => ⟨fun g hg e => by subst e; obtain ⟨cs, hc⟩ := hz.kinds.1 g hg; exact absurd (kindB hc n5) (by decide), fun g hg e => by subst e; obtain ⟨cs, hc⟩ := hz.kinds.2 g hg; exact absurd (kindB hc n5) (by decide)⟩
            have R6 : Rq w bb sb p KK O N (Value.slice x1 xn1 xc1, Value.slice x2 xn2 xc2) (Value.slice y1 yn1 yc1, Value.slice y2 yn2 yc2) (s, a) (t, bs) ((((w5.setCell ⟨p, 3, none⟩ (.slice x1 xn1 xc1)).setCell ⟨p, 4, none⟩ (.slice x2 xn2 xc2)).setCell ⟨p, 5, none⟩ (.slice y1 yn1 yc1)).setCell ⟨p, 6, none⟩ (.slice y2 yn2 yc2)) := ⟨(A3.below b35).chg K6 fun g e => by omega, n6, X5.chg K6 (nk X5.arw), Y5.chg K6 (nk Y5.arw)⟩
            clear n6 K6 X5 Y5 nk HS0 HS4 HS5 cO1 cO2 HO fx1 fx2 fy1 fy2 b4 b5 b34 b35 n4 n5 bd n3 A3 g3 g4 g5 g6 gf k3 k4 k5 k6 kf e0 e1 e2 e3 e4 e5 e6 ef hp3
            generalize ((((w5.setCell ⟨p, 3, none⟩ (.slice x1 xn1 xc1)).setCell ⟨p, 4, none⟩ (.slice x2 xn2 xc2)).setCell ⟨p, 5, none⟩ (.slice y1 yn1 yc1)).setCell ⟨p, 6, none⟩ (.slice y2 yn2 yc2)) = V0 at *
            obtain ⟨zz, hzz⟩ := asked7_any KK O N HK.out (s, a) (t, bs)
            have HZZ : Hid (∀ (x y : Value × Value) (w : World), Arw w x (s, a) → Arw w y (t, bs) → Calls Try.prog 7 #[.agg #[.int .i64 KK, .int .i64 O, .int .i64 N, x.1, x.2, y.1, y.2]] w fun e w' => ∃ v er, e = .returned (.tuple #[.agg #[v.1, v.2], .int .i64 er]) ∧ ArB w' w.heap.size v zz ∧ Below w.heap.size w w') := hzz
            clear hzz
            obtain ⟨e0, e1, e2, e3, e4, e5, e6, ef⟩ := seven R6.o
            have iX := R6.hX.inn
            have iY := R6.hY.inn
            have pV : p < V0.heap.size := (Array.getElem?_eq_some_iff.1 R6.o).1
            have cQ := HZZ.out (Value.slice x1 xn1 xc1, Value.slice x2 xn2 xc2) (Value.slice y1 yn1 yc1, Value.slice y2 yn2 yc2) V0 R6.hX.arw R6.hY.arw
            go_upto_region 12 with (go_at_call 7; (with_reducible refine cQ.mono ?_); rintro e ur ⟨v, err, rfl, hvr, cr⟩; obtain ⟨r1, rn1, rc1, r2, rn2, rc2, rfl, gr1, gr2⟩ := hvr)
            have dr := box_below ur (.cells #[.slice r1 rn1 rc1, .slice r2 rn2 rc2] 36)
            have mr := allocNew ur (.cells #[.slice r1 rn1 rc1, .slice r2 rn2 rc2] 36)
            have kr : Below V0.heap.size V0 (ur.alloc (.cells #[.slice r1 rn1 rc1, .slice r2 rn2 rc2] 36)) := cr.trans (dr.mono cr.size)
            have hr : ArB (ur.alloc (.cells #[.slice r1 rn1 rc1, .slice r2 rn2 rc2] 36)) V0.heap.size (Value.slice r1 rn1 rc1, Value.slice r2 rn2 rc2) zz := ArB.below ⟨_, _, _, _, _, _, rfl, gr1, gr2⟩ dr
            have R7 := R6.below kr
            have ir := hr.inn
            have zr : V0.heap.size ≤ (ur.alloc (.cells #[.slice r1 rn1 rc1, .slice r2 rn2 rc2] 36)).heap.size := kr.size
            have qr : V0.heap.size ≤ ur.heap.size := cr.size
            have bV1 : Below V0.heap.size V0 (ur.alloc (.cells #[.slice r1 rn1 rc1, .slice r2 rn2 rc2] 36)) := kr
            clear cQ cr dr kr gr1 gr2 e0 e1 e2 e3 e4 e5 e6 ef R6
            generalize ur.alloc (.cells #[.slice r1 rn1 rc1, .slice r2 rn2 rc2] 36) = V1 at *
            generalize ur.heap.size = pr at *
            obtain ⟨e0, e1, e2, e3, e4, e5, e6, ef⟩ := seven R7.o
            have cQ := HZZ.out (Value.slice x1 xn1 xc1, Value.slice x2 xn2 xc2) (Value.slice y1 yn1 yc1, Value.slice y2 yn2 yc2) V1 R7.hX.arw R7.hY.arw
            go_upto_region 13 with (go_at_call 7; (with_reducible refine cQ.mono ?_); rintro e ug ⟨v, erg, rfl, hvg, cg⟩; obtain ⟨g1, gn1, gc1, g2, gn2, gc2, rfl, gg1, gg2⟩ := hvg)
            have dg := box_below ug (.cells #[.slice g1 gn1 gc1, .slice g2 gn2 gc2] 36)
            have mg := allocNew ug (.cells #[.slice g1 gn1 gc1, .slice g2 gn2 gc2] 36)
            have kg : Below V1.heap.size V1 (ug.alloc (.cells #[.slice g1 gn1 gc1, .slice g2 gn2 gc2] 36)) := cg.trans (dg.mono cg.size)
            have hg : ArB (ug.alloc (.cells #[.slice g1 gn1 gc1, .slice g2 gn2 gc2] 36)) V1.heap.size (Value.slice g1 gn1 gc1, Value.slice g2 gn2 gc2) zz := ArB.below ⟨_, _, _, _, _, _, rfl, gg1, gg2⟩ dg
            have R8 := R7.below kg
            have ig := hg.inn
            have zg : V1.heap.size ≤ (ug.alloc (.cells #[.slice g1 gn1 gc1, .slice g2 gn2 gc2] 36)).heap.size := kg.size
            have qg : V1.heap.size ≤ ug.heap.size := cg.size
            have hrn := hr.below kg
            have mrn := (kg.block pr (Array.getElem?_eq_some_iff.1 mr).1).trans mr
            clear hr mr
            have hr := hrn
            have mr := mrn
            clear hrn mrn
            have bV2 : Below V0.heap.size V0 (ug.alloc (.cells #[.slice g1 gn1 gc1, .slice g2 gn2 gc2] 36)) := bV1.trans (kg.mono bV1.size)
            clear cQ cg dg kg gg1 gg2 e0 e1 e2 e3 e4 e5 e6 ef R7
            generalize ug.alloc (.cells #[.slice g1 gn1 gc1, .slice g2 gn2 gc2] 36) = V2 at *
            generalize ug.heap.size = pg at *
            obtain ⟨e0, e1, e2, e3, e4, e5, e6, ef⟩ := seven R8.o
            have cQ := HZZ.out (Value.slice x1 xn1 xc1, Value.slice x2 xn2 xc2) (Value.slice y1 yn1 yc1, Value.slice y2 yn2 yc2) V2 R8.hX.arw R8.hY.arw
            go_upto_region 14 with (go_at_call 7; (with_reducible refine cQ.mono ?_); rintro e uh ⟨v, erh, rfl, hvh, ch⟩; obtain ⟨h1, hn1, hc1, h2, hn2, hc2, rfl, gh1, gh2⟩ := hvh)
            have dh := box_below uh (.cells #[.slice h1 hn1 hc1, .slice h2 hn2 hc2] 36)
            have mh := allocNew uh (.cells #[.slice h1 hn1 hc1, .slice h2 hn2 hc2] 36)
            have kh : Below V2.heap.size V2 (uh.alloc (.cells #[.slice h1 hn1 hc1, .slice h2 hn2 hc2] 36)) := ch.trans (dh.mono ch.size)
            have hh : ArB (uh.alloc (.cells #[.slice h1 hn1 hc1, .slice h2 hn2 hc2] 36)) V2.heap.size (Value.slice h1 hn1 hc1, Value.slice h2 hn2 hc2) zz := ArB.below ⟨_, _, _, _, _, _, rfl, gh1, gh2⟩ dh
            have R9 := R8.below kh
            have ih := hh.inn
            have zh : V2.heap.size ≤ (uh.alloc (.cells #[.slice h1 hn1 hc1, .slice h2 hn2 hc2] 36)).heap.size := kh.size
            have qh : V2.heap.size ≤ uh.heap.size := ch.size
            have hrn := hr.below kh
            have mrn := (kh.block pr (Array.getElem?_eq_some_iff.1 mr).1).trans mr
            clear hr mr
            have hr := hrn
            have mr := mrn
            clear hrn mrn
            have hgn := hg.below kh
            have mgn := (kh.block pg (Array.getElem?_eq_some_iff.1 mg).1).trans mg
            clear hg mg
            have hg := hgn
            have mg := mgn
            clear hgn mgn
            have bV3 : Below V0.heap.size V0 (uh.alloc (.cells #[.slice h1 hn1 hc1, .slice h2 hn2 hc2] 36)) := bV2.trans (kh.mono bV2.size)
            clear cQ ch dh kh gh1 gh2 e0 e1 e2 e3 e4 e5 e6 ef R8
            generalize uh.alloc (.cells #[.slice h1 hn1 hc1, .slice h2 hn2 hc2] 36) = V3 at *
            generalize uh.heap.size = ph at *
            obtain ⟨e0, e1, e2, e3, e4, e5, e6, ef⟩ := seven R9.o
            obtain ⟨y0c, y1c, _, _⟩ := box2 mg
            have cW := own_arr (Value.slice g1 gn1 gc1, Value.slice g2 gn2 gc2) zz V3 hg.arw.reads
            go_upto_region 15 with (go_at_call 6; (with_reducible refine cW.mono ?_); rintro e uw ⟨v, rfl, hvw, cw⟩; obtain ⟨j1, jn1, jc1, j2, jn2, jc2, rfl, gj1, gj2⟩ := hvw)
            have dj := box_below uw (.cells #[.slice j1 jn1 jc1, .slice j2 jn2 jc2] 36)
            have mj := allocNew uw (.cells #[.slice j1 jn1 jc1, .slice j2 jn2 jc2] 36)
            have kj : Below V3.heap.size V3 (uw.alloc (.cells #[.slice j1 jn1 jc1, .slice j2 jn2 jc2] 36)) := cw.trans (dj.mono cw.size)
            have hj : ArB (uw.alloc (.cells #[.slice j1 jn1 jc1, .slice j2 jn2 jc2] 36)) V3.heap.size (Value.slice j1 jn1 jc1, Value.slice j2 jn2 jc2) zz := ArB.below ⟨_, _, _, _, _, _, rfl, gj1, gj2⟩ dj
            have R10 := R9.below kj
            have ij := hj.inn
            have zj : V3.heap.size ≤ (uw.alloc (.cells #[.slice j1 jn1 jc1, .slice j2 jn2 jc2] 36)).heap.size := kj.size
            have qj : V3.heap.size ≤ uw.heap.size := cw.size
            have hr' := hr.below kj
            have hg' := hg.below kj
            have hh' := hh.below kj
            have mr' := (kj.block pr (Array.getElem?_eq_some_iff.1 mr).1).trans mr
            have mg' := (kj.block pg (Array.getElem?_eq_some_iff.1 mg).1).trans mg
            have mh' := (kj.block ph (Array.getElem?_eq_some_iff.1 mh).1).trans mh
            have bV4 : Below V0.heap.size V0 (uw.alloc (.cells #[.slice j1 jn1 jc1, .slice j2 jn2 jc2] 36)) := bV3.trans (kj.mono bV3.size)
            clear cW cw dj kj gj1 gj2 R9 hr hg hh mr mg mh e0 e1 e2 e3 e4 e5 e6 ef y0c y1c
            generalize uw.alloc (.cells #[.slice j1 jn1 jc1, .slice j2 jn2 jc2] 36) = V4 at *
            generalize uw.heap.size = pj at *
            obtain ⟨r0c, r1c, _, _⟩ := box2 mr'
            obtain ⟨g0c, g1c, _, _⟩ := box2 mg'
            obtain ⟨h0c, h1c, _, _⟩ := box2 mh'
            have bK := box_below V4 (.cells #[.slice g1 gn1 gc1, .slice g2 gn2 gc2, .slice h1 hn1 hc1, .slice h2 hn2 hc2] 36)
            have nK := allocNew V4 (.cells #[.slice g1 gn1 gc1, .slice g2 gn2 gc2, .slice h1 hn1 hc1, .slice h2 hn2 hc2] 36)
            have RK := R10.below bK
            have hrK := hr'.below bK
            have hgK := hg'.below bK
            have hhK := hh'.below bK
            have hjK := hj.below bK
            have mrK := (bK.block pr (Array.getElem?_eq_some_iff.1 mr').1).trans mr'
            have mgK := (bK.block pg (Array.getElem?_eq_some_iff.1 mg').1).trans mg'
            have mjK := (bK.block pj (Array.getElem?_eq_some_iff.1 mj).1).trans mj
            have sK : V4.heap.size ≤ (V4.alloc (.cells #[.slice g1 gn1 gc1, .slice g2 gn2 gc2, .slice h1 hn1 hc1, .slice h2 hn2 hc2] 36)).heap.size := bK.size
            have HRK : Hid (Rq w bb sb p KK O N (Value.slice x1 xn1 xc1, Value.slice x2 xn2 xc2) (Value.slice y1 yn1 yc1, Value.slice y2 yn2 yc2) (s, a) (t, bs) (V4.alloc (.cells #[.slice g1 gn1 gc1, .slice g2 gn2 gc2, .slice h1 hn1 hc1, .slice h2 hn2 hc2] 36))) := RK
            obtain ⟨FB, FS, bso, bao, bm, bsc, bac, bsz, bvs, bus, lo, wo, n, lc, vc, sz, xs, ws, zs, hBk, hSh, h3, h4, h5, h6⟩ := RK.A
            have hC0 : w.heap.size ≤ p := by have := h3 bb hBk.fb; omega
            have outK : ∀ g, p ≤ g → g < (V4.alloc (.cells #[.slice g1 gn1 gc1, .slice g2 gn2 gc2, .slice h1 hn1 hc1, .slice h2 hn2 hc2] 36)).heap.size → ¬ (FS g ∨ (V4.alloc (.cells #[.slice g1 gn1 gc1, .slice g2 gn2 gc2, .slice h1 hn1 hc1, .slice h2 hn2 hc2] 36)).heap.size ≤ g) := fun g a1 a2 e => by
              rcases e with e | e
              · have := (h4 g e).2; omega
              · omega
            have cK := keep_any sb V4.heap.size FS (Value.slice g1 gn1 gc1, Value.slice g2 gn2 gc2) (Value.slice h1 hn1 hc1, Value.slice h2 hn2 hc2) zz zz (V4.alloc (.cells #[.slice g1 gn1 gc1, .slice g2 gn2 gc2, .slice h1 hn1 hc1, .slice h2 hn2 hc2] 36)) ⟨lo, wo, n, lc, vc, sz, xs, ws, zs, hSh.mono fun g hg => .inl hg, Chg.refl _ _⟩ nK (fun e => by have := (h4 _ e).2; omega) hgK.arw hhK.arw (ig.mono fun g e f => by have := (h4 g f).2; omega) (ih.mono fun g e f => by have := (h4 g f).2; omega) (apt_of ig ih fun g e f => by omega)
            have HT : Hid (Bk (V4.alloc (.cells #[.slice g1 gn1 gc1, .slice g2 gn2 gc2, .slice h1 hn1 hc1, .slice h2 hn2 hc2] 36)) FB bb bso bao bm bm bsc bac bsz bvs bus ∧ ArB (V4.alloc (.cells #[.slice g1 gn1 gc1, .slice g2 gn2 gc2, .slice h1 hn1 hc1, .slice h2 hn2 hc2] 36)) V0.heap.size (Value.slice r1 rn1 rc1, Value.slice r2 rn2 rc2) zz ∧ ArB (V4.alloc (.cells #[.slice g1 gn1 gc1, .slice g2 gn2 gc2, .slice h1 hn1 hc1, .slice h2 hn2 hc2] 36)) V1.heap.size (Value.slice g1 gn1 gc1, Value.slice g2 gn2 gc2) zz ∧ ArB (V4.alloc (.cells #[.slice g1 gn1 gc1, .slice g2 gn2 gc2, .slice h1 hn1 hc1, .slice h2 hn2 hc2] 36)) V3.heap.size (Value.slice j1 jn1 jc1, Value.slice j2 jn2 jc2) zz) := ⟨hBk, hrK, hgK, hjK⟩
            have HM : Hid ((V4.alloc (.cells #[.slice g1 gn1 gc1, .slice g2 gn2 gc2, .slice h1 hn1 hc1, .slice h2 hn2 hc2] 36)).heap[pr]? = some (.cells #[.slice r1 rn1 rc1, .slice r2 rn2 rc2] 36 (0, 0)) ∧ (V4.alloc (.cells #[.slice g1 gn1 gc1, .slice g2 gn2 gc2, .slice h1 hn1 hc1, .slice h2 hn2 hc2] 36)).heap[pg]? = some (.cells #[.slice g1 gn1 gc1, .slice g2 gn2 gc2] 36 (0, 0)) ∧ (V4.alloc (.cells #[.slice g1 gn1 gc1, .slice g2 gn2 gc2, .slice h1 hn1 hc1, .slice h2 hn2 hc2] 36)).heap[pj]? = some (.cells #[.slice j1 jn1 jc1, .slice j2 jn2 jc2] 36 (0, 0))) := ⟨mrK, mgK, mjK⟩
            clear bK nK RK hrK hgK hhK hjK mrK mgK mjK hBk hSh hr' hg' hh' hj mr' mg' mh' mj R10 bV1 bV2 bV3 bV4
            go_upto_region 16 with (go_at_call 8; (with_reducible refine cK.mono ?_); rintro e W7 ⟨rfl, i7, hi7, hP7⟩)
            obtain ⟨lo7, wo7, n7, lc7, vc7, sz7, xs7, ws7, zs7, hSh7, K7⟩ := hP7
            obtain ⟨hBk, hrK, hgK, hjK⟩ := HT.out
            obtain ⟨mrK, mgK, mjK⟩ := HM.out
            have sV : V0.heap.size ≤ V1.heap.size ∧ V1.heap.size ≤ V2.heap.size ∧ V2.heap.size ≤ V3.heap.size ∧ V3.heap.size ≤ V4.heap.size := ⟨zr, zg, zh, zj⟩
            have B7 := hBk.chg K7 fun g hg e => by rcases e with e | e; (· exact (h3 g hg).2.2 e); (· have := (h3 g hg).2.1; omega)
            have hr7 := hrK.chg K7 (ir.mono fun g e => outK g (by omega) (by omega))
            have hg7 := hgK.chg K7 (ig.mono fun g e => outK g (by omega) (by omega))
            have hj7 := hjK.chg K7 (ij.mono fun g e => outK g (by omega) (by omega))
            have hX7 := HRK.out.hX.chg K7 (iX.mono fun g e => outK g (by omega) (by omega))
            have hY7 := HRK.out.hY.chg K7 (iY.mono fun g e => outK g (by omega) (by omega))
            have o7 := K7.at HRK.out.o (outK p (Nat.le_refl _) (by omega))
            have mr7 := K7.at mrK (outK pr (by omega) (Array.getElem?_eq_some_iff.1 mrK).1)
            have mg7 := K7.at mgK (outK pg (by omega) (Array.getElem?_eq_some_iff.1 mgK).1)
            have mj7 := K7.at mjK (outK pj (by omega) (Array.getElem?_eq_some_iff.1 mjK).1)
            have bw7 : Below w.heap.size w W7 := K7.below h6 (fun g e => by rcases e with e | e; (· exact (h4 g e).1); (· omega)) (Nat.le_refl _)
            have bT := box_below W7 (.cells #[.slice r1 rn1 rc1, .slice r2 rn2 rc2] 36)
            have nT := allocNew W7 (.cells #[.slice r1 rn1 rc1, .slice r2 rn2 rc2] 36)
            have BT := B7.below bT
            have hrT := hr7.below bT
            have hgT := hg7.below bT
            have hjT := hj7.below bT
            have hXT := hX7.below bT
            have hYT := hY7.below bT
            have oT := (bT.block p (Array.getElem?_eq_some_iff.1 o7).1).trans o7
            have mgT := (bT.block pg (Array.getElem?_eq_some_iff.1 mg7).1).trans mg7
            have mjT := (bT.block pj (Array.getElem?_eq_some_iff.1 mj7).1).trans mj7
            have hShT := (hSh7.trim).below bT
            have bwT := bw7.trans (bT.mono bw7.size)
            have s7 : (V4.alloc (.cells #[.slice g1 gn1 gc1, .slice g2 gn2 gc2, .slice h1 hn1 hc1, .slice h2 hn2 hc2] 36)).heap.size ≤ W7.heap.size := K7.size
            have sT : W7.heap.size ≤ (W7.alloc (.cells #[.slice r1 rn1 rc1, .slice r2 rn2 rc2] 36)).heap.size := bT.size
            obtain ⟨r0c', r1c', _, _⟩ := box2 mr7
            obtain ⟨q1o, q1n, q1c, q2o, q2n, q2c, eqq, fr1, fr2⟩ := hrT
            injection eqq with eq1 eq2
            injection eq1 with eq3 eq4 eq5
            injection eq2 with eq6 eq7 eq8
            subst eq3 eq4 eq5 eq6 eq7 eq8
            have ss1 := fr1.sl
            have ss2 := fr2.sl
            have fo1 := (fr1.mono (Nat.zero_le V0.heap.size)).own
            have cT := take_any bb W7.heap.size bso bao r1 r2 bm bsc bac rn1 rc1 rn2 rc2 bsz bvs bus zz.1 zz.2 FB (fun g => FB g ∨ (W7.alloc (.cells #[.slice r1 rn1 rc1, .slice r2 rn2 rc2] 36)).heap.size ≤ g ∨ (Value.slice r1 rn1 rc1).ownBlock = some g ∨ (Value.slice r2 rn2 rc2).ownBlock = some g) (W7.alloc (.cells #[.slice r1 rn1 rc1, .slice r2 rn2 rc2] 36)) BT nT (fr1.mono (Nat.zero_le _)).own fr1.rd.len (fr2.mono (Nat.zero_le _)).own fr2.rd.len fr1.rd.room fr2.rd.room (by have := ss1.3; omega) (by have := ss2.3; omega)
              (fun g hg e => by have a1 := ir.1 g hg; have a2 := (h3 g e).2.1; omega) (fun g hg e => by have a1 := ir.2 g hg; have a2 := (h3 g e).2.1; omega) (fun g hg => .inl hg) (fun g hg => .inr (.inl hg)) (fun g hg => .inr (.inr (.inl hg))) (fun g hg => .inr (.inr (.inr hg)))
            have outT : ∀ g, p ≤ g → g < (W7.alloc (.cells #[.slice r1 rn1 rc1, .slice r2 rn2 rc2] 36)).heap.size → (g < V0.heap.size ∨ V1.heap.size ≤ g) → ¬ (FB g ∨ (W7.alloc (.cells #[.slice r1 rn1 rc1, .slice r2 rn2 rc2] 36)).heap.size ≤ g ∨ (Value.slice r1 rn1 rc1).ownBlock = some g ∨ (Value.slice r2 rn2 rc2).ownBlock = some g) := fun g a1 a2 a3 e => by
              rcases e with e | e | e | e
              · have := (h3 g e).2.1; omega
              · omega
              · have := ir.1 g e; omega
              · have := ir.2 g e; omega
            have outS : ∀ g, (Kf (V4.alloc (.cells #[.slice g1 gn1 gc1, .slice g2 gn2 gc2, .slice h1 hn1 hc1, .slice h2 hn2 hc2] 36)) FS [(Value.slice g1 gn1 gc1, Value.slice g2 gn2 gc2), (Value.slice h1 hn1 hc1, Value.slice h2 hn2 hc2)] i7 g ∧ g < W7.heap.size) → ¬ (FB g ∨ (W7.alloc (.cells #[.slice r1 rn1 rc1, .slice r2 rn2 rc2] 36)).heap.size ≤ g ∨ (Value.slice r1 rn1 rc1).ownBlock = some g ∨ (Value.slice r2 rn2 rc2).ownBlock = some g) ∧ w.heap.size ≤ g := fun g hg => by
              obtain ⟨hk, hlt7⟩ := hg
              have lo' : ∀ (jx : Nat) (xx : Value × Value), [(Value.slice g1 gn1 gc1, Value.slice g2 gn2 gc2), (Value.slice h1 hn1 hc1, Value.slice h2 hn2 hc2)][jx]? = some xx → Inn (fun g => V1.heap.size ≤ g ∧ g < V3.heap.size) xx := fun jx xx hjx => by
                match jx, hjx with
                | 0, hjx => simp at hjx; subst hjx; exact ig.mono fun g e => ⟨by omega, by omega⟩
                | 1, hjx => simp at hjx; subst hjx; exact ih.mono fun g e => ⟨by omega, by omega⟩
                | jx + 2, hjx => simp at hjx
              rcases hk with hk | hk | ⟨jx, xx, _, hjx, hk⟩
              · refine ⟨fun e => ?_, (h4 g hk).1⟩
                have a1 := (h4 g hk).2
                rcases e with e | e | e | e
                · exact (h3 g e).2.2 hk
                · omega
                · have := ir.1 g e; omega
                · have := ir.2 g e; omega
              · refine ⟨outT g (by omega) (by omega) (.inr (by omega)), by omega⟩
              · have a1 : V1.heap.size ≤ g ∧ g < V3.heap.size := by rcases hk with hk | hk; (· exact (lo' jx xx hjx).1 g hk); (· exact (lo' jx xx hjx).2 g hk)
                exact ⟨outT g (by omega) (by omega) (.inr (by omega)), by omega⟩
            have HT2 : Hid (Sh (W7.alloc (.cells #[.slice r1 rn1 rc1, .slice r2 rn2 rc2] 36)) (fun g => Kf (V4.alloc (.cells #[.slice g1 gn1 gc1, .slice g2 gn2 gc2, .slice h1 hn1 hc1, .slice h2 hn2 hc2] 36)) FS [(Value.slice g1 gn1 gc1, Value.slice g2 gn2 gc2), (Value.slice h1 hn1 hc1, Value.slice h2 hn2 hc2)] i7 g ∧ g < W7.heap.size) sb lo7 wo7 n7 n7 lc7 vc7 sz7 xs7 ws7 zs7 ∧ ArB (W7.alloc (.cells #[.slice r1 rn1 rc1, .slice r2 rn2 rc2] 36)) V1.heap.size (Value.slice g1 gn1 gc1, Value.slice g2 gn2 gc2) zz ∧ ArB (W7.alloc (.cells #[.slice r1 rn1 rc1, .slice r2 rn2 rc2] 36)) V3.heap.size (Value.slice j1 jn1 jc1, Value.slice j2 jn2 jc2) zz ∧ ArB (W7.alloc (.cells #[.slice r1 rn1 rc1, .slice r2 rn2 rc2] 36)) p (Value.slice x1 xn1 xc1, Value.slice x2 xn2 xc2) (s, a) ∧ ArB (W7.alloc (.cells #[.slice r1 rn1 rc1, .slice r2 rn2 rc2] 36)) p (Value.slice y1 yn1 yc1, Value.slice y2 yn2 yc2) (t, bs) ∧ Below w.heap.size w (W7.alloc (.cells #[.slice r1 rn1 rc1, .slice r2 rn2 rc2] 36))) := ⟨hShT, hgT, hjT, hXT, hYT, bwT⟩
            clear hrK hgK hjK mrK mgK mjK hBk B7 hr7 hg7 hj7 hX7 hY7 o7 mg7 mj7 bT nT BT hgT hjT hXT hYT hShT bwT bw7 hSh7 HT HM HRK cK outK K7 fr1 fr2 ss1 ss2 fo1 h6 h5
            go_upto_region 17 with (go_at_call 9; refine cT.mono ?_; rintro e W8 ⟨rfl, ⟨so8, ao8, m8, sc8, ac8, sz8, vs8, us8, B8⟩, K8⟩)
            obtain ⟨hShT, hgT, hjT, hXT, hYT, bwT⟩ := HT2.out
            have S8 := hShT.chg K8 fun g hg => (outS g hg).1
            have hg8 := hgT.chg K8 (ig.mono fun g e => outT g (by omega) (by omega) (.inr (by omega)))
            have hj8 := hjT.chg K8 (ij.mono fun g e => outT g (by omega) (by omega) (.inr (by omega)))
            have hX8 := hXT.chg K8 (iX.mono fun g e => outT g (by omega) (by omega) (.inl (by omega)))
            have hY8 := hYT.chg K8 (iY.mono fun g e => outT g (by omega) (by omega) (.inl (by omega)))
            have o8 := K8.at oT (outT p (Nat.le_refl _) (Array.getElem?_eq_some_iff.1 oT).1 (.inl pV))
            have mg8 := K8.at mgT (outT pg (by omega) (Array.getElem?_eq_some_iff.1 mgT).1 (.inr (by omega)))
            have mj8 := K8.at mjT (outT pj (by omega) (Array.getElem?_eq_some_iff.1 mjT).1 (.inr (by omega)))
            have bw8 : Below w.heap.size w W8 := K8.below bwT (fun g e => by
              rcases e with e | e | e | e
              · exact (h3 g e).1
              · have := bwT.size; omega
              · have := ir.1 g e; omega
              · have := ir.2 g e; omega) (Nat.le_refl _)
            have s8 : (W7.alloc (.cells #[.slice r1 rn1 rc1, .slice r2 rn2 rc2] 36)).heap.size ≤ W8.heap.size := K8.size
            have A8 : Aq w bb sb W8.heap.size W8 := ⟨_, _, _, _, _, _, _, _, _, _, _, _, _, _, _, _, _, _, _, B8.trim, S8, fun g hg => ⟨by
              rcases hg.1 with e | e | e | e
              · exact (h3 g e).1
              · have := bwT.size; omega
              · have := ir.1 g e; omega
              · have := ir.2 g e; omega, hg.2, fun hh => (outS g hh).1 hg.1⟩, fun g hg => ⟨(outS g hg).2, by have := hg.2; omega⟩, Nat.le_refl _, bw8⟩
            clear cT HT2 hShT hgT hjT hXT hYT bwT S8 B8 K8 oT mgT mjT outT outS h3 h4
            obtain ⟨e0, e1, e2, e3, e4, e5, e6, ef⟩ := seven o8
            have cQ := HZZ.out (Value.slice x1 xn1 xc1, Value.slice x2 xn2 xc2) (Value.slice y1 yn1 yc1, Value.slice y2 yn2 yc2) W8 hX8.arw hY8.arw
            go_upto_region 18 with (go_at_call 7; (with_reducible refine cQ.mono ?_); rintro e uk ⟨v, erk, rfl, hvk, ck⟩; obtain ⟨k1, kn1, kc1, k2, kn2, kc2, rfl, gk1, gk2⟩ := hvk)
            have dk := box_below uk (.cells #[.slice k1 kn1 kc1, .slice k2 kn2 kc2] 36)
            have mk := allocNew uk (.cells #[.slice k1 kn1 kc1, .slice k2 kn2 kc2] 36)
            have kk : Below W8.heap.size W8 (uk.alloc (.cells #[.slice k1 kn1 kc1, .slice k2 kn2 kc2] 36)) := ck.trans (dk.mono ck.size)
            have hk9 : ArB (uk.alloc (.cells #[.slice k1 kn1 kc1, .slice k2 kn2 kc2] 36)) W8.heap.size (Value.slice k1 kn1 kc1, Value.slice k2 kn2 kc2) zz := ArB.below ⟨_, _, _, _, _, _, rfl, gk1, gk2⟩ dk
            have A9 := A8.below kk
            have hg9 := hg8.below kk
            have hj9 := hj8.below kk
            have hX9 := hX8.below kk
            have hY9 := hY8.below kk
            have o9 := (kk.block p (Array.getElem?_eq_some_iff.1 o8).1).trans o8
            have mg9 := (kk.block pg (Array.getElem?_eq_some_iff.1 mg8).1).trans mg8
            have mj9 := (kk.block pj (Array.getElem?_eq_some_iff.1 mj8).1).trans mj8
            have bw9 := bw8.trans (kk.mono bw8.size)
            clear e0 e1 e2 e3 e4 e5 e6 ef cQ ck dk kk gk1 gk2 A8 hg8 hj8 hX8 hY8 o8 mg8 mj8 bw8
            generalize uk.alloc (.cells #[.slice k1 kn1 kc1, .slice k2 kn2 kc2] 36) = W9 at *
            generalize uk.heap.size = pk at *
            have HE : Hid (∀ V, Below W9.heap.size W9 V → (V.cell? ⟨pk, 0, none⟩ = some (.slice k1 kn1 kc1) ∧ V.cell? ⟨pk, 1, none⟩ = some (.slice k2 kn2 kc2) ∧ V.cell? ⟨pj, 0, none⟩ = some (.slice j1 jn1 jc1) ∧ V.cell? ⟨pj, 1, none⟩ = some (.slice j2 jn2 jc2) ∧ V.cell? ⟨pg, 0, none⟩ = some (.slice g1 gn1 gc1) ∧ V.cell? ⟨pg, 1, none⟩ = some (.slice g2 gn2 gc2) ∧ V.cell? ⟨p, 3, none⟩ = some (.slice x1 xn1 xc1) ∧ V.cell? ⟨p, 4, none⟩ = some (.slice x2 xn2 xc2) ∧ V.cell? ⟨p, 5, none⟩ = some (.slice y1 yn1 yc1) ∧ V.cell? ⟨p, 6, none⟩ = some (.slice y2 yn2 yc2) ∧ V.cell? ⟨b, off + k * 7 + 3, none⟩ = some (.slice so sn sc) ∧ V.cell? ⟨b, off + k * 7 + 4, none⟩ = some (.slice ao an ac) ∧ V.cell? ⟨b, off + k * 7 + 5, none⟩ = some (.slice uo tn tc) ∧ V.cell? ⟨b, off + k * 7 + 6, none⟩ = some (.slice bo bn bc)) ∧ (Calls Try.prog 10 #[.agg #[.slice k1 kn1 kc1, .slice k2 kn2 kc2], .agg #[.slice j1 jn1 jc1, .slice j2 jn2 jc2]] V fun e w' => e = .returned (.bool true) ∧ Below V.heap.size V w') ∧ (Calls Try.prog 10 #[.agg #[.slice g1 gn1 gc1, .slice g2 gn2 gc2], .agg #[.slice j1 jn1 jc1, .slice j2 jn2 jc2]] V fun e w' => e = .returned (.bool true) ∧ Below V.heap.size V w') ∧ (Calls Try.prog 10 #[.agg #[.slice x1 xn1 xc1, .slice x2 xn2 xc2], .agg #[.slice so sn sc, .slice ao an ac]] V fun e w' => e = .returned (.bool true) ∧ Below V.heap.size V w') ∧ (Calls Try.prog 10 #[.agg #[.slice y1 yn1 yc1, .slice y2 yn2 yc2], .agg #[.slice uo tn tc, .slice bo bn bc]] V fun e w' => e = .returned (.bool true) ∧ Below V.heap.size V w')) := fun V hV => by
              have o := (hV.block p (Array.getElem?_eq_some_iff.1 o9).1).trans o9
              obtain ⟨_, _, _, a3, a4, a5, a6, _⟩ := seven o
              obtain ⟨b0, b1, _, _⟩ := box2 ((hV.block pk (Array.getElem?_eq_some_iff.1 mk).1).trans mk)
              obtain ⟨b2, b3, _, _⟩ := box2 ((hV.block pj (Array.getElem?_eq_some_iff.1 mj9).1).trans mj9)
              obtain ⟨b4, b5, _, _⟩ := box2 ((hV.block pg (Array.getElem?_eq_some_iff.1 mg9).1).trans mg9)
              obtain ⟨⟨_, _, _, c3, c4, c5, c6⟩, ok⟩ := HCk.out V (bw9.trans (hV.mono bw9.size))
              have rj := (hj9.below hV).arw.reads
              have rg := (hg9.below hV).arw.reads
              have rk := (hk9.below hV).arw.reads
              have rx := (hX9.below hV).arw.reads
              have ry := (hY9.below hV).arw.reads
              have sx : ∃ so' sn' sc' ao' an' ac', (Value.slice so sn sc, Value.slice ao an ac) = (.slice so' sn' sc', .slice ao' an' ac') ∧ Rd V so' sn' (s, a).1 ∧ Sl so' sn' sc' ∧ Rd V ao' an' (s, a).2 ∧ Sl ao' an' ac' := ⟨_, _, _, _, _, _, rfl, ok.rs, ok.ss, ok.ra, ok.sa⟩
              have sy : ∃ so' sn' sc' ao' an' ac', (Value.slice uo tn tc, Value.slice bo bn bc) = (.slice so' sn' sc', .slice ao' an' ac') ∧ Rd V so' sn' (t, bs).1 ∧ Sl so' sn' sc' ∧ Rd V ao' an' (t, bs).2 ∧ Sl ao' an' ac' := ⟨_, _, _, _, _, _, rfl, ok.rt, ok.st, ok.rb, ok.sb⟩
              exact ⟨⟨b0, b1, b2, b3, b4, b5, a3, a4, a5, a6, c3, c4, c5, c6⟩, rd_eq (x := (Value.slice k1 kn1 kc1, Value.slice k2 kn2 kc2)) (y := (Value.slice j1 jn1 jc1, Value.slice j2 jn2 jc2)) (z := zz) rk rj, rd_eq (x := (Value.slice g1 gn1 gc1, Value.slice g2 gn2 gc2)) (y := (Value.slice j1 jn1 jc1, Value.slice j2 jn2 jc2)) (z := zz) rg rj, rd_eq (x := (Value.slice x1 xn1 xc1, Value.slice x2 xn2 xc2)) (y := (Value.slice so sn sc, Value.slice ao an ac)) (z := (s, a)) rx sx, rd_eq (x := (Value.slice y1 yn1 yc1, Value.slice y2 yn2 yc2)) (y := (Value.slice uo tn tc, Value.slice bo bn bc)) (z := (t, bs)) ry sy⟩
            have bd := (Below.refl W9.heap.size W9).drew
            obtain ⟨HS0, cE0, _, _, _⟩ := HE.out W9.drew bd
            clear hk9 hg9 hj9 hX9 hY9 o9 mg9 mj9 mk
            go_upto_region 18 with fail
            refine wp_region_R (fun V => V.cell? ⟨pk, 0, none⟩ = some (.slice k1 kn1 kc1) ∧ V.cell? ⟨pk, 1, none⟩ = some (.slice k2 kn2 kc2) ∧ V.cell? ⟨pj, 0, none⟩ = some (.slice j1 jn1 jc1) ∧ V.cell? ⟨pj, 1, none⟩ = some (.slice j2 jn2 jc2) ∧ V.cell? ⟨pg, 0, none⟩ = some (.slice g1 gn1 gc1) ∧ V.cell? ⟨pg, 1, none⟩ = some (.slice g2 gn2 gc2) ∧ V.cell? ⟨p, 3, none⟩ = some (.slice x1 xn1 xc1) ∧ V.cell? ⟨p, 4, none⟩ = some (.slice x2 xn2 xc2) ∧ V.cell? ⟨p, 5, none⟩ = some (.slice y1 yn1 yc1) ∧ V.cell? ⟨p, 6, none⟩ = some (.slice y2 yn2 yc2) ∧ V.cell? ⟨b, off + k * 7 + 3, none⟩ = some (.slice so sn sc) ∧ V.cell? ⟨b, off + k * 7 + 4, none⟩ = some (.slice ao an ac) ∧ V.cell? ⟨b, off + k * 7 + 5, none⟩ = some (.slice uo tn tc) ∧ V.cell? ⟨b, off + k * 7 + 6, none⟩ = some (.slice bo bn bc)) (fun _ => true) (by kernel_rfl) ?_
            refine wpAnyR_take (i := 0) (v := .agg #[.slice k1 kn1 kc1, .slice k2 kn2 kc2]) rfl (by kernel_rfl) (by kernel_rfl) (by kernel_rfl) (by kernel_rfl) (fun _ _ _ h => h) (Or.inl ⟨by rfl, fun V hV => ?_⟩) ?_ ?_
            · obtain ⟨g0, g1, g2, g3, g4, g5, g6, g7, g8, g9, g10, g11, g12, g13⟩ := hV
              go_simp
            · exact HS0
            conv => arg 9; simp [Act.put]
            refine wpAnyR_take (i := 1) (v := .agg #[.slice j1 jn1 jc1, .slice j2 jn2 jc2]) rfl (by kernel_rfl) (by kernel_rfl) (by kernel_rfl) (by kernel_rfl) (fun _ _ _ h => h) (Or.inl ⟨by rfl, fun V hV => ?_⟩) ?_ ?_
            · obtain ⟨g0, g1, g2, g3, g4, g5, g6, g7, g8, g9, g10, g11, g12, g13⟩ := hV
              go_simp
            · exact HS0
            conv => arg 9; simp [Act.put]
            refine wpAnyR_one (i := 2) (by kernel_rfl) rfl (fun K hK => ?_)
            go_simp
            go_at_call 10
            refine cE0.mono ?_
            rintro e q1 ⟨rfl, bq1⟩
            have Bq1 := bd.trans (bq1.mono bd.size)
            obtain ⟨HSq1, _, cE1, _, _⟩ := HE.out q1 Bq1
            refine hK _ _ ⟨fun _ => HSq1, ?_⟩
            clear hK
            conv => arg 9; simp [Act.put]
            refine wpAnyR_take (i := 3) (v := .bool false) rfl (by kernel_rfl) (by kernel_rfl) (by kernel_rfl) (by kernel_rfl) (fun _ _ _ h => h) (Or.inl ⟨by rfl, fun V hV => ?_⟩) ?_ ?_
            · obtain ⟨g0, g1, g2, g3, g4, g5, g6, g7, g8, g9, g10, g11, g12, g13⟩ := hV
              go_simp
            · exact HSq1
            conv => arg 9; simp [Act.put]
            refine wpAnyR_take (i := 4) (v := .bool false) rfl (by kernel_rfl) (by kernel_rfl) (by kernel_rfl) (by kernel_rfl) (fun _ _ _ h => h) (Or.inl ⟨by rfl, fun V hV => ?_⟩) ?_ ?_
            · obtain ⟨g0, g1, g2, g3, g4, g5, g6, g7, g8, g9, g10, g11, g12, g13⟩ := hV
              go_simp
            · exact HSq1
            conv => arg 9; simp [Act.put]
            refine wpAnyR_take (i := 5) (v := .agg #[.slice g1 gn1 gc1, .slice g2 gn2 gc2]) rfl (by kernel_rfl) (by kernel_rfl) (by kernel_rfl) (by kernel_rfl) (fun _ _ _ h => h) (Or.inl ⟨by rfl, fun V hV => ?_⟩) ?_ ?_
            · obtain ⟨g0, g1, g2, g3, g4, g5, g6, g7, g8, g9, g10, g11, g12, g13⟩ := hV
              go_simp
            · exact HSq1
            conv => arg 9; simp [Act.put]
            refine wpAnyR_take (i := 6) (v := .agg #[.slice j1 jn1 jc1, .slice j2 jn2 jc2]) rfl (by kernel_rfl) (by kernel_rfl) (by kernel_rfl) (by kernel_rfl) (fun _ _ _ h => h) (Or.inl ⟨by rfl, fun V hV => ?_⟩) ?_ ?_
            · obtain ⟨g0, g1, g2, g3, g4, g5, g6, g7, g8, g9, g10, g11, g12, g13⟩ := hV
              go_simp
            · exact HSq1
            conv => arg 9; simp [Act.put]
            refine wpAnyR_one (i := 7) (by kernel_rfl) rfl (fun K hK => ?_)
            go_simp
            go_at_call 10
            refine cE1.mono ?_
            rintro e q2 ⟨rfl, bq2⟩
            have Bq2 := Bq1.trans (bq2.mono Bq1.size)
            obtain ⟨HSq2, _, _, cE2, _⟩ := HE.out q2 Bq2
            refine hK _ _ ⟨fun _ => HSq2, ?_⟩
            clear hK
            conv => arg 9; simp [Act.put]
            refine wpAnyR_take (i := 8) (v := .bool false) rfl (by kernel_rfl) (by kernel_rfl) (by kernel_rfl) (by kernel_rfl) (fun _ _ _ h => h) (Or.inl ⟨by rfl, fun V hV => ?_⟩) ?_ ?_
            · obtain ⟨g0, g1, g2, g3, g4, g5, g6, g7, g8, g9, g10, g11, g12, g13⟩ := hV
              go_simp
            · exact HSq2
            conv => arg 9; simp [Act.put]
            refine wpAnyR_take (i := 9) (v := .bool false) rfl (by kernel_rfl) (by kernel_rfl) (by kernel_rfl) (by kernel_rfl) (fun _ _ _ h => h) (Or.inl ⟨by rfl, fun V hV => ?_⟩) ?_ ?_
            · obtain ⟨g0, g1, g2, g3, g4, g5, g6, g7, g8, g9, g10, g11, g12, g13⟩ := hV
              go_simp
            · exact HSq2
            conv => arg 9; simp [Act.put]
            refine wpAnyR_take (i := 10) (v := .bool false) rfl (by kernel_rfl) (by kernel_rfl) (by kernel_rfl) (by kernel_rfl) (fun _ _ _ h => h) (Or.inl ⟨by rfl, fun V hV => ?_⟩) ?_ ?_
            · obtain ⟨g0, g1, g2, g3, g4, g5, g6, g7, g8, g9, g10, g11, g12, g13⟩ := hV
              go_simp
            · exact HSq2
            conv => arg 9; simp [Act.put]
            refine wpAnyR_take (i := 11) (v := .pointer (some ⟨p, 3, none⟩)) rfl (by kernel_rfl) (by kernel_rfl) (by kernel_rfl) (by kernel_rfl) (fun _ _ _ h => h) (Or.inl ⟨by rfl, fun V hV => ?_⟩) ?_ ?_
            · obtain ⟨g0, g1, g2, g3, g4, g5, g6, g7, g8, g9, g10, g11, g12, g13⟩ := hV
              go_simp
            · exact HSq2
            conv => arg 9; simp [Act.put]
            refine wpAnyR_take (i := 12) (v := .agg #[.slice x1 xn1 xc1, .slice x2 xn2 xc2]) rfl (by kernel_rfl) (by kernel_rfl) (by kernel_rfl) (by kernel_rfl) (fun _ _ _ h => h) (Or.inl ⟨by rfl, fun V hV => ?_⟩) ?_ ?_
            · obtain ⟨g0, g1, g2, g3, g4, g5, g6, g7, g8, g9, g10, g11, g12, g13⟩ := hV
              go_simp
            · exact HSq2
            conv => arg 9; simp [Act.put]
            refine wpAnyR_take (i := 13) (v := .slice (some ⟨b, off, none⟩) len cap) rfl (by kernel_rfl) (by kernel_rfl) (by kernel_rfl) (by kernel_rfl) (fun _ _ _ h => h) (Or.inl ⟨by rfl, fun V hV => ?_⟩) ?_ ?_
            · obtain ⟨g0, g1, g2, g3, g4, g5, g6, g7, g8, g9, g10, g11, g12, g13⟩ := hV
              go_simp
            · exact HSq2
            conv => arg 9; simp [Act.put]
            refine wpAnyR_take (i := 14) (v := .int .i64 (k : Int)) rfl (by kernel_rfl) (by kernel_rfl) (by kernel_rfl) (by kernel_rfl) (fun _ _ _ h => h) (Or.inl ⟨by rfl, fun V hV => ?_⟩) ?_ ?_
            · obtain ⟨g0, g1, g2, g3, g4, g5, g6, g7, g8, g9, g10, g11, g12, g13⟩ := hV
              go_simp
            · exact HSq2
            conv => arg 9; simp [Act.put]
            refine wpAnyR_take (i := 15) (v := .pointer (some ⟨b, off + k * 7, none⟩)) rfl (by kernel_rfl) (by kernel_rfl) (by kernel_rfl) (by kernel_rfl) (fun _ _ _ h => h) (Or.inl ⟨by rfl, fun V hV => ?_⟩) ?_ ?_
            · obtain ⟨g0, g1, g2, g3, g4, g5, g6, g7, g8, g9, g10, g11, g12, g13⟩ := hV
              go_simp
            · exact HSq2
            conv => arg 9; simp [Act.put]
            refine wpAnyR_take (i := 16) (v := .pointer (some ⟨b, off + k * 7 + 3, none⟩)) rfl (by kernel_rfl) (by kernel_rfl) (by kernel_rfl) (by kernel_rfl) (fun _ _ _ h => h) (Or.inl ⟨by rfl, fun V hV => ?_⟩) ?_ ?_
            · obtain ⟨g0, g1, g2, g3, g4, g5, g6, g7, g8, g9, g10, g11, g12, g13⟩ := hV
              go_simp
            · exact HSq2
            conv => arg 9; simp [Act.put]
            refine wpAnyR_take (i := 17) (v := .agg #[.slice so sn sc, .slice ao an ac]) rfl (by kernel_rfl) (by kernel_rfl) (by kernel_rfl) (by kernel_rfl) (fun _ _ _ h => h) (Or.inl ⟨by rfl, fun V hV => ?_⟩) ?_ ?_
            · obtain ⟨g0, g1, g2, g3, g4, g5, g6, g7, g8, g9, g10, g11, g12, g13⟩ := hV
              go_simp
            · exact HSq2
            conv => arg 9; simp [Act.put]
            refine wpAnyR_one (i := 18) (by kernel_rfl) rfl (fun K hK => ?_)
            go_simp
            go_at_call 10
            refine cE2.mono ?_
            rintro e q3 ⟨rfl, bq3⟩
            have Bq3 := Bq2.trans (bq3.mono Bq2.size)
            obtain ⟨HSq3, _, _, _, cE3⟩ := HE.out q3 Bq3
            refine hK _ _ ⟨fun _ => HSq3, ?_⟩
            clear hK
            conv => arg 9; simp [Act.put]
            refine wpAnyR_take (i := 19) (v := .bool false) rfl (by kernel_rfl) (by kernel_rfl) (by kernel_rfl) (by kernel_rfl) (fun _ _ _ h => h) (Or.inl ⟨by rfl, fun V hV => ?_⟩) ?_ ?_
            · obtain ⟨g0, g1, g2, g3, g4, g5, g6, g7, g8, g9, g10, g11, g12, g13⟩ := hV
              go_simp
            · exact HSq3
            conv => arg 9; simp [Act.put]
            refine wpAnyR_take (i := 20) (v := .bool false) rfl (by kernel_rfl) (by kernel_rfl) (by kernel_rfl) (by kernel_rfl) (fun _ _ _ h => h) (Or.inl ⟨by rfl, fun V hV => ?_⟩) ?_ ?_
            · obtain ⟨g0, g1, g2, g3, g4, g5, g6, g7, g8, g9, g10, g11, g12, g13⟩ := hV
              go_simp
            · exact HSq3
            conv => arg 9; simp [Act.put]
            refine wpAnyR_take (i := 21) (v := .bool false) rfl (by kernel_rfl) (by kernel_rfl) (by kernel_rfl) (by kernel_rfl) (fun _ _ _ h => h) (Or.inl ⟨by rfl, fun V hV => ?_⟩) ?_ ?_
            · obtain ⟨g0, g1, g2, g3, g4, g5, g6, g7, g8, g9, g10, g11, g12, g13⟩ := hV
              go_simp
            · exact HSq3
            conv => arg 9; simp [Act.put]
            refine wpAnyR_take (i := 22) (v := .pointer (some ⟨p, 5, none⟩)) rfl (by kernel_rfl) (by kernel_rfl) (by kernel_rfl) (by kernel_rfl) (fun _ _ _ h => h) (Or.inl ⟨by rfl, fun V hV => ?_⟩) ?_ ?_
            · obtain ⟨g0, g1, g2, g3, g4, g5, g6, g7, g8, g9, g10, g11, g12, g13⟩ := hV
              go_simp
            · exact HSq3
            conv => arg 9; simp [Act.put]
            refine wpAnyR_take (i := 23) (v := .agg #[.slice y1 yn1 yc1, .slice y2 yn2 yc2]) rfl (by kernel_rfl) (by kernel_rfl) (by kernel_rfl) (by kernel_rfl) (fun _ _ _ h => h) (Or.inl ⟨by rfl, fun V hV => ?_⟩) ?_ ?_
            · obtain ⟨g0, g1, g2, g3, g4, g5, g6, g7, g8, g9, g10, g11, g12, g13⟩ := hV
              go_simp
            · exact HSq3
            conv => arg 9; simp [Act.put]
            refine wpAnyR_take (i := 24) (v := .slice (some ⟨b, off, none⟩) len cap) rfl (by kernel_rfl) (by kernel_rfl) (by kernel_rfl) (by kernel_rfl) (fun _ _ _ h => h) (Or.inl ⟨by rfl, fun V hV => ?_⟩) ?_ ?_
            · obtain ⟨g0, g1, g2, g3, g4, g5, g6, g7, g8, g9, g10, g11, g12, g13⟩ := hV
              go_simp
            · exact HSq3
            conv => arg 9; simp [Act.put]
            refine wpAnyR_take (i := 25) (v := .int .i64 (k : Int)) rfl (by kernel_rfl) (by kernel_rfl) (by kernel_rfl) (by kernel_rfl) (fun _ _ _ h => h) (Or.inl ⟨by rfl, fun V hV => ?_⟩) ?_ ?_
            · obtain ⟨g0, g1, g2, g3, g4, g5, g6, g7, g8, g9, g10, g11, g12, g13⟩ := hV
              go_simp
            · exact HSq3
            conv => arg 9; simp [Act.put]
            refine wpAnyR_take (i := 26) (v := .pointer (some ⟨b, off + k * 7, none⟩)) rfl (by kernel_rfl) (by kernel_rfl) (by kernel_rfl) (by kernel_rfl) (fun _ _ _ h => h) (Or.inl ⟨by rfl, fun V hV => ?_⟩) ?_ ?_
            · obtain ⟨g0, g1, g2, g3, g4, g5, g6, g7, g8, g9, g10, g11, g12, g13⟩ := hV
              go_simp
            · exact HSq3
            conv => arg 9; simp [Act.put]
            refine wpAnyR_take (i := 27) (v := .pointer (some ⟨b, off + k * 7 + 5, none⟩)) rfl (by kernel_rfl) (by kernel_rfl) (by kernel_rfl) (by kernel_rfl) (fun _ _ _ h => h) (Or.inl ⟨by rfl, fun V hV => ?_⟩) ?_ ?_
            · obtain ⟨g0, g1, g2, g3, g4, g5, g6, g7, g8, g9, g10, g11, g12, g13⟩ := hV
              go_simp
            · exact HSq3
            conv => arg 9; simp [Act.put]
            refine wpAnyR_take (i := 28) (v := .agg #[.slice uo tn tc, .slice bo bn bc]) rfl (by kernel_rfl) (by kernel_rfl) (by kernel_rfl) (by kernel_rfl) (fun _ _ _ h => h) (Or.inl ⟨by rfl, fun V hV => ?_⟩) ?_ ?_
            · obtain ⟨g0, g1, g2, g3, g4, g5, g6, g7, g8, g9, g10, g11, g12, g13⟩ := hV
              go_simp
            · exact HSq3
            conv => arg 9; simp [Act.put]
            refine wpAnyR_one (i := 29) (by kernel_rfl) rfl (fun K hK => ?_)
            go_simp
            go_at_call 10
            refine cE3.mono ?_
            rintro e q4 ⟨rfl, bq4⟩
            have Bq4 := Bq3.trans (bq4.mono Bq3.size)
            obtain ⟨HSq4, _, _, _, _⟩ := HE.out q4 Bq4
            refine hK _ _ ⟨fun _ => HSq4, ?_⟩
            clear hK
            conv => arg 9; simp [Act.put]
            refine wpAnyR_take (i := 30) (v := .bool false) rfl (by kernel_rfl) (by kernel_rfl) (by kernel_rfl) (by kernel_rfl) (fun _ _ _ h => h) (Or.inl ⟨by rfl, fun V hV => ?_⟩) ?_ ?_
            · obtain ⟨g0, g1, g2, g3, g4, g5, g6, g7, g8, g9, g10, g11, g12, g13⟩ := hV
              go_simp
            · exact HSq4
            conv => arg 9; simp [Act.put]
            refine wpAnyR_take (i := 31) (v := .bool false) rfl (by kernel_rfl) (by kernel_rfl) (by kernel_rfl) (by kernel_rfl) (fun _ _ _ h => h) (Or.inl ⟨by rfl, fun V hV => ?_⟩) ?_ ?_
            · obtain ⟨g0, g1, g2, g3, g4, g5, g6, g7, g8, g9, g10, g11, g12, g13⟩ := hV
              go_simp
            · exact HSq4
            conv => arg 9; simp [Act.put]
            refine wpAnyR_done (by kernel_rfl) ?_ _
            go_wp2
            go_roundg (len - (k + 1))
            case measure => have := HL.out.1; omega
            case rel => exact ⟨k + 1, by have := HL.out.1; omega, rfl, (by have := HL.out.1; have := HL.out.2; first | go_num | (refine congrArg (Value.int .i64) ?_; unfold wrap64; omega)), _, A9.below Bq4⟩
          · have h2' : shb tn bn = false := by simpa using h2
            rw [h1] at cS1
            simp only [h2'] at cS2
            go_wp2_with (first
              | (go_at_call 5; (with_reducible refine cS1.mono ?_); rintro e w2 ⟨rfl, b2⟩; have n2 := (b2.block p hp).trans nA; obtain ⟨f0, f1, f2, f3, f4, f5, f6, ff⟩ := seven n2)
              | (go_at_call 5; (with_reducible refine (cS2 _).mono ?_); rintro e w3 ⟨rfl, b3⟩))
            go_roundg (len - (k + 1))
            case measure => have := HL.out.1; omega
            case rel => exact ⟨k + 1, by have := HL.out.1; omega, rfl, (by have := HL.out.1; have := HL.out.2; first | go_num | (refine congrArg (Value.int .i64) ?_; unfold wrap64; omega)), _, HA1.out.below (b2.trans (b3.mono b2.size))⟩
        · have h1' : shb sn an = false := by simpa using h1
          rw [h1'] at cS1
          go_wp2_with (go_at_call 5; (with_reducible refine cS1.mono ?_); rintro e w2 ⟨rfl, b2⟩)
          go_roundg (len - (k + 1))
          case measure => have := HL.out.1; omega
          case rel => exact ⟨k + 1, by have := HL.out.1; omega, rfl, (by have := HL.out.1; have := HL.out.2; first | go_num | (refine congrArg (Value.int .i64) ?_; unfold wrap64; omega)), _, HA1.out.below b2⟩
      · have k2 : (KK == 2) = false := by simp; omega
        have k3 : (KK == 3) = false := by simp; omega
        have k2' : (KK != 2) = true := by simp; omega
        have k3' : (KK != 3) = true := by simp; omega
        have k4 : decide (KK = 2) = false := by simp; omega
        have k5 : decide (KK = 3) = false := by simp; omega
        have k6 : KK ≠ 2 := by omega
        have k7 : KK ≠ 3 := by omega
        clear hK
        go_wp2
        go_roundg (len - (k + 1))
        case measure => have := HL.out.1; omega
        case rel => exact ⟨k + 1, by have := HL.out.1; omega, rfl, (by have := HL.out.1; have := HL.out.2; first | go_num | (refine congrArg (Value.int .i64) ?_; unfold wrap64; omega)), _, HA1.out⟩
    · obtain rfl : k = len := by omega
      have t1 : decide ((k : Int) < (k : Int)) = false := by simp
      obtain ⟨FB, FS, bso, bao, bm, bsc, bac, bsz, bvs, bus, lo, wo, n, lc, vc, sz, xs, ws, zs, hBk, hSh, h3, h4, h5, h6⟩ := hA0
      have cE := ends_any sb FS lo wo n lc vc sz xs ws zs wr hSh
      clear hlt
      go_wp2_with (first
        | (go_at_call 11; (with_reducible refine cE.mono ?_); rintro e W7 ⟨rfl, K7⟩; have B7 := hBk.chg K7 (fun g hg e => (by rcases e with e | e; (· exact (h3 g hg).2.2 e); (· have := (h3 g hg).2.1; omega))); have b7 : Below w.heap.size w W7 := K7.below h6 (fun g e => (by rcases e with e | e; (· exact (h4 g e).1); (· have := h6.size; omega))) (Nat.le_refl _); have cW := whole_any bb bso bao bm bsc bac bsz bvs bus FB W7 B7)
        | (go_at_call 12; (with_reducible refine cW.mono ?_); rintro e W8 ⟨rfl, hVV⟩; rw [hVV]; clear hVV))
      go_ret
      exact ⟨rfl, b7⟩
end Go.Proofs.Ytlajainnpnbcaaa
