/- The walk of the law ArrMade, of a list that may be. -/
import Derived.Test.YtaobchjdeeijcaaB3
namespace Go.Proofs.Ytaobchjdeeijcaa
open Go.RowKit
set_option linter.unusedVariables false

theorem eq_same (W : World) (so ao to bo : Option Addr) (sn sc an ac tn tc bn bc : Nat) (s a : List Int) (hs : Rd W so sn s) (ha : Rd W ao an a) (ht : Rd W to tn s) (hb : Rd W bo bn a) :
    Calls Try.prog 24 #[.agg #[.slice so sn sc, .slice ao an ac], .agg #[.slice to tn tc, .slice bo bn bc]] W fun e w' => e = .returned (.bool true) ∧ Below W.heap.size W w' :=
  (eq_any so ao to bo sn sc an ac tn tc bn bc s a s a W hs ha ht hb).mono fun e w' ⟨h1, h2⟩ => ⟨by rw [h1, eqA_refl], h2⟩

set_option maxHeartbeats 8000000 in
set_option maxRecDepth 20000 in
theorem made_no (n : Int) (lo so : Option Addr) (ln lc sn sc : Nat) (ns sh : List Int) (w : World) (hl : Rd w lo ln ns) (sl : Sl lo ln lc) (hs : Rd w so sn sh) (ss : Sl so sn sc) (h1 : -9223372036854775808 ≤ n) (h2 : n ≤ 9223372036854775807) (hln : ln ≤ 4096) (h0 : mayF sh ≠ 0) :
    Calls Try.prog 8 #[.int .i64 n, .slice lo ln lc, .slice so sn sc] w fun e w' => e = .returned (.bool true) ∧ Below w.heap.size w w' := by
  have M0 : Ma w w lo ln so sn ns sh := ⟨hl, hs, Below.refl _ _⟩
  have hnn : (n != n) = false := by simp
  have cm := fun W o2 c2 (x : Rd W o2 1 [n]) => mayA_any none o2 0 0 1 c2 [] [n] W (Rd.nil W) x
  rw [mayA_scalar n] at cm
  have ml := mayA_list (zs := ns) (by rw [hl.len]; exact hln)
  rw [hl.len] at ml
  have cl := fun W o1 c1 o2 c2 (x : Rd W o1 1 [(ln : Int)]) (y : Rd W o2 ln ns) => mayA_any o1 o2 1 c1 ln c2 [(ln : Int)] ns W x y
  rw [ml] at cl
  have cs := fun W (x : Rd W so sn sh) => mayA_any so none sn sc 0 0 sh [] W x (Rd.nil W)
  rw [mayA_none h0] at cs
  have h0' : (mayF sh != 0) = true := by simpa using h0
  have cf := fun W (x : Rd W so sn sh) => fill_no so sn sc sh n W x ss h1 h2 h0
  have e0 : (mayF sh == mayF sh) = true := by simp
  clear ml hl hs h0
  generalize mayF sh = E at *
  go_enter Try.func8, Try.ntmps8
  go_wp2_with (first
    | (go_at_call 18; refine (begun3_any _).mono ?_; rintro e w1 ⟨rfl, k1⟩; have M1 := M0.below k1)
    | (go_at_call 26; refine (scalar_any n _ h1 h2).mono ?_; rintro e w2 ⟨o2, c2, rfl, f2, k2⟩; have M2 := M1.below k2; have k2b := box_below w2 (.cells #[.slice none 0 0, .slice o2 1 c2] 55); have M3 := M2.below k2b; have ba := bx_new (sc := 0) (ac := c2) (Rd.nil w2) f2.rd)
    | (go_at_call 27; refine (list_any _ _ _ _ _ M3.l sl hln).mono ?_; rintro e w3 ⟨o3, c3, o4, c4, rfl, f3, f4, _, k3⟩; have M4 := M3.below k3; have ba3 := ba.below k3; have k3b := box_below w3 (.cells #[.slice o3 1 c3, .slice o4 ln c4] 55); have M5 := M4.below k3b; have ba4 := ba3.below k3b; have bl := bx_new (sc := c3) (ac := c4) f3.rd f4.rd)
    | (go_at_call 28; refine (cf _ M5.s).mono ?_; rintro e w4 ⟨q1, d1, q2, d2, rfl, r5, r6, k4⟩; have M6 := M5.below k4; have ba5 := ba4.below k4; have bl5 := bl.below k4; have bf := bx_new (sc := d1) (ac := d2) r5 r6; have k4b := box_below w4 (.cells #[.slice q1 0 d1, .slice q2 0 d2] 55); have M7 := M6.below k4b; have ba6 := ba5.below k4b; have bl6 := bl5.below k4b; have X1 := ba6.c0; have X2 := ba6.c1; obtain ⟨g7, off7, rfl, _, hc7⟩ := ba6.a.cells (by omega); have c7 := hc7 0 (by omega); rw [Nat.add_zero] at c7; clear hc7)
    | (go_at_call 20; (with_reducible refine (cm _ _ _ ba6.a).mono ?_); clear cm; rintro e w5 ⟨rfl, k5⟩; have M8 := M7.below k5; have bl7 := bl6.below k5; have bf7 := bf.below k5; have Y1 := bl7.c0; have Y2 := bl7.c1)
    | (go_at_call 20; (with_reducible refine (cl _ _ _ _ _ bl7.s bl7.a).mono ?_); clear cl; rintro e w6 ⟨rfl, k6⟩; have M9 := M8.below k6; have bl8 := bl7.below k6; have bf8 := bf7.below k6; have Z1 := bl8.c0; have Z2 := bl8.c1; have f9 := ft_new 3 w6 [(ln : Int)] (by simp) (num1 (by omega) (by omega)); have k6b := box_below w6 (.cells #[.int .i64 (ln : Nat)] 3); have M10 := M9.below k6b; have bl9 := bl8.below k6b; have bf9 := bf8.below k6b)
    | (go_at_call 24; refine (eq_same _ _ _ _ _ _ _ _ _ _ _ _ _ _ _ bl9.s bl9.a f9.rd M10.l).mono ?_; rintro e w7 ⟨rfl, k7⟩; have M11 := M10.below k7; have bf10 := bf9.below k7; have V1 := bf10.c0; have V2 := bf10.c1)
    | (go_at_call 20; (with_reducible refine (cs _ M11.s).mono ?_); rintro e w8 ⟨rfl, k8⟩; have M12 := M11.below k8))
  go_ret
  exact ⟨rfl, M12.bel⟩

set_option maxHeartbeats 8000000 in
set_option maxRecDepth 20000 in
theorem made_ok (n : Int) (lo so : Option Addr) (ln lc sn sc : Nat) (ns sh : List Int) (w : World) (hl : Rd w lo ln ns) (sl : Sl lo ln lc) (hs : Rd w so sn sh) (ss : Sl so sn sc) (h1 : -9223372036854775808 ≤ n) (h2 : n ≤ 9223372036854775807) (hln : ln ≤ 4096) (h0 : mayF sh = 0) :
    Calls Try.prog 8 #[.int .i64 n, .slice lo ln lc, .slice so sn sc] w fun e w' => e = .returned (.bool true) ∧ Below w.heap.size w w' := by
  have M0 : Ma w w lo ln so sn ns sh := ⟨hl, hs, Below.refl _ _⟩
  have hnn : (n != n) = false := by simp
  have HL : Hid (sh.length = sn) := hs.len
  have hroom := hs.room
  have cm := fun W o2 c2 (x : Rd W o2 1 [n]) => mayA_any none o2 0 0 1 c2 [] [n] W (Rd.nil W) x
  rw [mayA_scalar n] at cm
  have ml := mayA_list (zs := ns) (by rw [hl.len]; exact hln)
  rw [hl.len] at ml
  have cl := fun W o1 c1 o2 c2 (x : Rd W o1 1 [(ln : Int)]) (y : Rd W o2 ln ns) => mayA_any o1 o2 1 c1 ln c2 [(ln : Int)] ns W x y
  rw [ml] at cl
  have bd := pr_small h0 sh.length (Nat.le_refl _)
  rw [List.take_length] at bd
  obtain ⟨m, hm⟩ : ∃ m : Nat, pr sh = m := ⟨(pr sh).toNat, by omega⟩
  have hm4 : m ≤ 4096 := by omega
  have cf := fun W (x : Rd W so sn sh) => fill_ok so sn sc sh n W x ss h1 h2 h0 m hm
  have cg := fun W o1 c1 o2 c2 (x : Rd W o1 sn sh) (y : Rd W o2 m (List.replicate m n)) => mayA_any o1 o2 sn c1 m c2 sh (List.replicate m n) W x y
  rw [mayA_fill (n := n) h0 hm] at cg
  have H0 : Hid (mayF sh = 0) := h0
  have HM : Hid (pr sh = m) := hm
  have hmm : ((m : Int) == (m : Int)) = true := by simp
  clear ml hl hs h0 bd hm
  go_enter Try.func8, Try.ntmps8
  go_wp2_with (first
    | (go_at_call 18; refine (begun3_any _).mono ?_; rintro e w1 ⟨rfl, k1⟩; have M1 := M0.below k1)
    | (go_at_call 26; refine (scalar_any n _ h1 h2).mono ?_; rintro e w2 ⟨o2, c2, rfl, f2, k2⟩; have M2 := M1.below k2; have k2b := box_below w2 (.cells #[.slice none 0 0, .slice o2 1 c2] 55); have M3 := M2.below k2b; have ba := bx_new (sc := 0) (ac := c2) (Rd.nil w2) f2.rd)
    | (go_at_call 27; refine (list_any _ _ _ _ _ M3.l sl hln).mono ?_; rintro e w3 ⟨o3, c3, o4, c4, rfl, f3, f4, _, k3⟩; have M4 := M3.below k3; have ba3 := ba.below k3; have k3b := box_below w3 (.cells #[.slice o3 1 c3, .slice o4 ln c4] 55); have M5 := M4.below k3b; have ba4 := ba3.below k3b; have bl := bx_new (sc := c3) (ac := c4) f3.rd f4.rd)
    | (go_at_call 28; refine (cf _ M5.s).mono ?_; rintro e w4 ⟨q1, d1, q2, d2, rfl, r5, r6, k4⟩; have M6 := M5.below k4; have ba5 := ba4.below k4; have bl5 := bl.below k4; have bf := bx_new (sc := d1) (ac := d2) r5 r6; have k4b := box_below w4 (.cells #[.slice q1 sn d1, .slice q2 m d2] 55); have M7 := M6.below k4b; have ba6 := ba5.below k4b; have bl6 := bl5.below k4b; have X1 := ba6.c0; have X2 := ba6.c1; obtain ⟨g7, off7, rfl, _, hc7⟩ := ba6.a.cells (by omega); have c7 := hc7 0 (by omega); rw [Nat.add_zero] at c7; clear hc7)
    | (go_at_call 20; (with_reducible refine (cm _ _ _ ba6.a).mono ?_); clear cm; rintro e w5 ⟨rfl, k5⟩; have M8 := M7.below k5; have bl7 := bl6.below k5; have bf7 := bf.below k5; have Y1 := bl7.c0; have Y2 := bl7.c1)
    | (go_at_call 20; (with_reducible refine (cl _ _ _ _ _ bl7.s bl7.a).mono ?_); clear cl; rintro e w6 ⟨rfl, k6⟩; have M9 := M8.below k6; have bl8 := bl7.below k6; have bf8 := bf7.below k6; have Z1 := bl8.c0; have Z2 := bl8.c1; have f9 := ft_new 3 w6 [(ln : Int)] (by simp) (num1 (by omega) (by omega)); have k6b := box_below w6 (.cells #[.int .i64 (ln : Nat)] 3); have M10 := M9.below k6b; have bl9 := bl8.below k6b; have bf9 := bf8.below k6b)
    | (go_at_call 24; refine (eq_same _ _ _ _ _ _ _ _ _ _ _ _ _ _ _ bl9.s bl9.a f9.rd M10.l).mono ?_; rintro e w7 ⟨rfl, k7⟩; have M11 := M10.below k7; have bf10 := bf9.below k7; have V1 := bf10.c0; have V2 := bf10.c1))
  clear M0 M1 M2 M3 M4 M5 M6 M7 M8 M9 M10 ba ba3 ba4 ba5 ba6 bl bl5 bl6 bl7 bl8 bl9 bf bf7 bf8 bf9 X1 X2 Y1 Y2 Z1 Z2 f2 f3 f4 f9 k1 k2 k2b k3 k3b k4 k4b k5 k6 k6b k7 c7 r5 r6
  have hrm := bf10.a.room
  go_loop [12, 13] (fun p i => ∃ k : Nat, k ≤ sn ∧ i = .int .i64 (k : Nat) ∧ p = .int .i64 (pr (sh.take k))) (fun _ i => sn - (intOf i).toNat)
  case atStart => exact ⟨0, Nat.zero_le _, rfl, rfl⟩
  case round =>
    obtain ⟨k, hk, rfl, rfl⟩ := hrel
    by_cases hlt : k < sn
    · obtain ⟨b, off, rfl, hb, hc⟩ := M11.s.cells (by omega)
      have hc' := hc k hlt
      have hnum := M11.s.num k hlt
      have hb1 := pr_small H0.out (k + 1) (by have := HL.out; omega)
      have e1 : pr (sh.take (k + 1)) = pr (sh.take k) * nth sh k := by rw [take_nth (by have := HL.out; omega), pr_snoc]
      have HS : Hid (pr (sh.take (k + 1)) = pr (sh.take k) * nth sh k) := e1
      rw [e1] at hb1
      clear e1 hc
      go_wp2
      go_round
      case rel => exact ⟨k + 1, by omega, by go_num, by rw [HS.out]⟩
      case measure => simp [intOf]; omega
    · obtain rfl : k = sn := by omega
      have ee : pr (sh.take k) = (m : Int) := by rw [← HM.out, ← HL.out, List.take_length]
      rw [ee]
      clear ee
      go_wp2
      go_loop [14] (fun i => ∃ j : Nat, j ≤ m ∧ i = .int .i64 (j : Nat)) (fun i => m - (intOf i).toNat)
      case atStart => exact ⟨0, Nat.zero_le _, rfl⟩
      case round =>
        obtain ⟨j, hj, rfl⟩ := hrel
        by_cases hlt2 : j < m
        · obtain ⟨b, off, rfl, hb, hc⟩ := bf10.a.cells (by omega)
          have hc' := hc j hlt2
          have en : nth (List.replicate m n) j = n := by simp [nth, hlt2]
          rw [en] at hc'
          clear en hc
          go_wp2
          go_round
          case rel => exact ⟨j + 1, by omega, by go_num⟩
          case measure => simp [intOf]; omega
        · obtain rfl : j = m := by omega
          go_wp2_with (first
            | (go_at_call 20; (with_reducible refine (cg _ _ _ _ _ bf10.s bf10.a).mono ?_); rintro e w8 ⟨rfl, k8⟩; have M12 := M11.below k8; have bf11 := bf10.below k8; have V3 := bf11.c0; have V4 := bf11.c1)
            | (go_at_call 24; refine (eq_same _ _ _ _ _ _ _ _ _ _ _ _ _ _ _ bf11.s (Rd.nil _) M12.s (Rd.nil _)).mono ?_; rintro e w9 ⟨rfl, k9⟩; have M13 := M12.below k9))
          go_ret
          exact ⟨rfl, M13.bel⟩

theorem made_any (n : Int) (lo so : Option Addr) (ln lc sn sc : Nat) (ns sh : List Int) (w : World) (hl : Rd w lo ln ns) (sl : Sl lo ln lc) (hs : Rd w so sn sh) (ss : Sl so sn sc) (h1 : -9223372036854775808 ≤ n) (h2 : n ≤ 9223372036854775807) :
    Calls Try.prog 8 #[.int .i64 n, .slice lo ln lc, .slice so sn sc] w fun e w' => e = .returned (.bool true) ∧ Below w.heap.size w w' := by
  by_cases hln : ln ≤ 4096
  · by_cases h0 : mayF sh = 0
    · exact made_ok n lo so ln lc sn sc ns sh w hl sl hs ss h1 h2 hln h0
    · exact made_no n lo so ln lc sn sc ns sh w hl sl hs ss h1 h2 hln h0
  · exact made_long n lo so ln lc sn sc ns sh w hl sl hs ss h1 h2 (by omega)
end Go.Proofs.Ytaobchjdeeijcaa
