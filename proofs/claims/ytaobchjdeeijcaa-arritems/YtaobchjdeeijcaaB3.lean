/- The walk of the law ArrMade. -/
import Derived.Test.YtaobchjdeeijcaaB1
import Derived.Test.YtaobchjdeeijcaaA11
namespace Go.Proofs.Ytaobchjdeeijcaa
open Go.RowKit
set_option linter.unusedVariables false

theorem fill_ok (so : Option Addr) (sn sc : Nat) (sh : List Int) (n : Int) (w : World) (h : Rd w so sn sh) (hs : Sl so sn sc) (h1 : -9223372036854775808 ≤ n) (h2 : n ≤ 9223372036854775807) (h0 : mayF sh = 0) (m : Nat) (hm : pr sh = m) :
    Calls Try.prog 28 #[.slice so sn sc, .int .i64 n] w fun e w' => ∃ o1 c1 o2 c2, e = .returned (.tuple #[.agg #[.slice o1 sn c1, .slice o2 m c2], .int .i64 0]) ∧ Rd w' o1 sn sh ∧ Rd w' o2 m (List.replicate m n) ∧ Below w.heap.size w w' := by
  refine (fill_any so sn sc sh n w h hs h1 h2).mono fun e w' ⟨o1, n1, c1, o2, n2, c2, x1, x2, x3, x4, x5⟩ => ?_
  have e1 : filS sh = sh := if_pos h0
  have e2 : filA sh n = List.replicate (pr sh).toNat n := if_pos h0
  rw [e1] at x2
  rw [e2, hm, Int.toNat_natCast] at x3
  have l1 := x2.rd.len
  have l2 := x3.rd.len
  rw [h.len] at l1
  rw [List.length_replicate] at l2
  subst l1 l2
  rw [h0] at x1
  exact ⟨o1, c1, o2, c2, x1, x2.rd, x3.rd, x5⟩
theorem fill_no (so : Option Addr) (sn sc : Nat) (sh : List Int) (n : Int) (w : World) (h : Rd w so sn sh) (hs : Sl so sn sc) (h1 : -9223372036854775808 ≤ n) (h2 : n ≤ 9223372036854775807) (h0 : mayF sh ≠ 0) :
    Calls Try.prog 28 #[.slice so sn sc, .int .i64 n] w fun e w' => ∃ o1 c1 o2 c2, e = .returned (.tuple #[.agg #[.slice o1 0 c1, .slice o2 0 c2], .int .i64 (mayF sh)]) ∧ Rd w' o1 0 [] ∧ Rd w' o2 0 [] ∧ Below w.heap.size w w' := by
  refine (fill_any so sn sc sh n w h hs h1 h2).mono fun e w' ⟨o1, n1, c1, o2, n2, c2, x1, x2, x3, x4, x5⟩ => ?_
  have e1 : filS sh = [] := if_neg h0
  have e2 : filA sh n = [] := if_neg h0
  rw [e1] at x2
  rw [e2] at x3
  have l1 := x2.rd.len
  have l2 := x3.rd.len
  simp at l1 l2
  subst l1 l2
  exact ⟨o1, c1, o2, c2, x1, x2.rd, x3.rd, x5⟩

theorem mayF_one {n : Nat} (h : n ≤ 4096) : mayF [(n : Int)] = 0 := by
  refine mayF_ok (fun k hk => ?_) (by simp) ?_
  · simp at hk; subst hk; simp [nth]
  · simp only [pz, List.foldl_cons, List.foldl_nil]; split <;> omega
theorem mayA_list {zs : List Int} (h : zs.length ≤ 4096) : mayA [(zs.length : Int)] zs = 0 := by
  refine mayA_ok (mayF_one h) ?_
  simp [pr]
theorem mayA_none {sh : List Int} (h : mayF sh ≠ 0) : mayA sh [] = mayF sh := if_pos h
theorem mayA_fill {sh : List Int} {n : Int} {m : Nat} (h : mayF sh = 0) (hm : pr sh = m) : mayA sh (List.replicate m n) = 0 := mayA_ok h (by rw [List.length_replicate, hm])
theorem mayA_scalar (n : Int) : mayA [] [n] = 0 := by rfl

/-- What is handed in, as the calls go on. -/
structure Ma (w W : World) (lo : Option Addr) (ln : Nat) (so : Option Addr) (sn : Nat) (ns sh : List Int) : Prop where
  l : Rd W lo ln ns
  s : Rd W so sn sh
  bel : Below w.heap.size w W
theorem Ma.below {w W W' : World} {lo : Option Addr} {ln : Nat} {so : Option Addr} {sn : Nat} {ns sh : List Int} (h : Ma w W lo ln so sn ns sh) (k : Below W.heap.size W W') : Ma w W' lo ln so sn ns sh :=
  ⟨h.l.below k (Nat.le_refl _), h.s.below k (Nat.le_refl _), btw h.bel k h.bel.size⟩

set_option maxHeartbeats 8000000 in
set_option maxRecDepth 20000 in
theorem made_long (n : Int) (lo so : Option Addr) (ln lc sn sc : Nat) (ns sh : List Int) (w : World) (hl : Rd w lo ln ns) (sl : Sl lo ln lc) (hs : Rd w so sn sh) (ss : Sl so sn sc) (h1 : -9223372036854775808 ≤ n) (h2 : n ≤ 9223372036854775807) (hlong : 4096 < ln) :
    Calls Try.prog 8 #[.int .i64 n, .slice lo ln lc, .slice so sn sc] w fun e w' => e = .returned (.bool true) ∧ Below w.heap.size w w' := by
  have hroom := hl.room
  have M0 : Ma w w lo ln so sn ns sh := ⟨hl, hs, Below.refl _ _⟩
  clear hl hs
  have hnn : (n != n) = false := by simp
  have cm := fun W o2 c2 (x : Rd W o2 1 [n]) => mayA_any none o2 0 0 1 c2 [] [n] W (Rd.nil W) x
  rw [mayA_scalar n] at cm
  go_enter Try.func8, Try.ntmps8
  go_wp2_with (first
    | (go_at_call 18; refine (begun3_any _).mono ?_; rintro e w1 ⟨rfl, k1⟩; have M1 := M0.below k1)
    | (go_at_call 26; refine (scalar_any n _ h1 h2).mono ?_; rintro e w2 ⟨o2, c2, rfl, f2, k2⟩; have M2 := M1.below k2; have k2b := box_below w2 (.cells #[.slice none 0 0, .slice o2 1 c2] 55); have M3 := M2.below k2b; have ba := bx_new (sc := 0) (ac := c2) (Rd.nil w2) f2.rd)
    | (go_at_call 27; refine (list_long _ _ _ _ hlong (by omega)).mono ?_; rintro e w3 ⟨rfl, k3⟩; have M4 := M3.below k3; have ba3 := ba.below k3; have k3b := box_below w3 (.cells #[.slice none 0 0, .slice none 0 0] 55); have M5 := M4.below k3b; have ba4 := ba3.below k3b; have bl := bx_new (sc := 0) (ac := 0) (Rd.nil w3) (Rd.nil w3))
    | (go_at_call 28; refine (fill_any _ _ _ _ _ _ M5.s ss h1 h2).mono ?_; rintro e w4 ⟨q1, m1, d1, q2, m2, d2, rfl, _, _, _, k4⟩; have M6 := M5.below k4; have ba5 := ba4.below k4; have bl5 := bl.below k4; have k4b := box_below w4 (.cells #[.slice q1 m1 d1, .slice q2 m2 d2] 55); have M7 := M6.below k4b; have ba6 := ba5.below k4b; have bl6 := bl5.below k4b; have X1 := ba6.c0; have X2 := ba6.c1; obtain ⟨g7, off7, rfl, _, hc7⟩ := ba6.a.cells (by omega); have c7 := hc7 0 (by omega); rw [Nat.add_zero] at c7; clear hc7)
    | (go_at_call 20; refine (cm _ _ _ ba6.a).mono ?_; rintro e w5 ⟨rfl, k5⟩; have M8 := M7.below k5; have bl7 := bl6.below k5; have Y1 := bl7.c0; have Y2 := bl7.c1))
  go_ret
  exact ⟨rfl, M8.bel⟩
end Go.Proofs.Ytaobchjdeeijcaa
