/- The walk of the law NumCommon, put together: for every three numbers of 64 bits it answers true. -/
import Derived.Test.YtaajliecbchklaaCommon
namespace Go.Proofs.Ytaajliecbchklaa
open Go.RowKit
set_option linter.unusedVariables false

set_option maxRecDepth 20000 in
theorem common_none (d : Int) (w : World) :
    Calls Try.prog 6 #[.int .i64 0, .int .i64 0, .int .i64 d] w fun e w' => e = .returned (.bool true) ∧ ∃ n, w' = w.drewN n := by
  have cg : ∀ w, Calls Try.prog 14 #[.int .i64 14, .int .i64 0, .int .i64 0] w fun e w' => e = .returned (.tuple #[.int .i64 0, .int .i64 0]) ∧ ∃ n, w' = w.drewN n := fun w => dyad14 0 0 rfl rfl w
  go_enter Try.func6, Try.ntmps6
  go_wp2_with (first | (go_at_call 8; refine (begun_any _).mono ?_; rintro e w' ⟨rfl, n, rfl⟩) | (go_at_call 14; (with_reducible refine (cg _).mono ?_); rintro e w' ⟨rfl, n, rfl⟩))
  go_ret
  exact ⟨rfl, _, rfl⟩

set_option maxRecDepth 20000 in
theorem common_over1 (d : Int) (w : World) :
    Calls Try.prog 6 #[.int .i64 (-9223372036854775808), .int .i64 0, .int .i64 d] w fun e w' => e = .returned (.bool true) ∧ ∃ n, w' = w.drewN n := by
  have cg : ∀ w, Calls Try.prog 14 #[.int .i64 14, .int .i64 (-9223372036854775808), .int .i64 0] w fun e w' => e = .returned (.tuple #[.int .i64 0, .int .i64 14]) ∧ ∃ n, w' = w.drewN n := fun w => dyad14 (-9223372036854775808) 0 rfl rfl w
  go_enter Try.func6, Try.ntmps6
  go_wp2_with (first | (go_at_call 8; refine (begun_any _).mono ?_; rintro e w' ⟨rfl, n, rfl⟩) | (go_at_call 14; (with_reducible refine (cg _).mono ?_); rintro e w' ⟨rfl, n, rfl⟩))
  go_ret
  exact ⟨rfl, _, rfl⟩

set_option maxRecDepth 20000 in
theorem common_over2 (d : Int) (w : World) :
    Calls Try.prog 6 #[.int .i64 0, .int .i64 (-9223372036854775808), .int .i64 d] w fun e w' => e = .returned (.bool true) ∧ ∃ n, w' = w.drewN n := by
  have cg : ∀ w, Calls Try.prog 14 #[.int .i64 14, .int .i64 0, .int .i64 (-9223372036854775808)] w fun e w' => e = .returned (.tuple #[.int .i64 0, .int .i64 14]) ∧ ∃ n, w' = w.drewN n := fun w => dyad14 0 (-9223372036854775808) rfl rfl w
  go_enter Try.func6, Try.ntmps6
  go_wp2_with (first | (go_at_call 8; refine (begun_any _).mono ?_; rintro e w' ⟨rfl, n, rfl⟩) | (go_at_call 14; (with_reducible refine (cg _).mono ?_); rintro e w' ⟨rfl, n, rfl⟩))
  go_ret
  exact ⟨rfl, _, rfl⟩

set_option maxRecDepth 20000 in
theorem common_over3 (d : Int) (w : World) :
    Calls Try.prog 6 #[.int .i64 (-9223372036854775808), .int .i64 (-9223372036854775808), .int .i64 d] w fun e w' => e = .returned (.bool true) ∧ ∃ n, w' = w.drewN n := by
  have cg : ∀ w, Calls Try.prog 14 #[.int .i64 14, .int .i64 (-9223372036854775808), .int .i64 (-9223372036854775808)] w fun e w' => e = .returned (.tuple #[.int .i64 0, .int .i64 14]) ∧ ∃ n, w' = w.drewN n := fun w => dyad14 (-9223372036854775808) (-9223372036854775808) rfl rfl w
  go_enter Try.func6, Try.ntmps6
  go_wp2_with (first | (go_at_call 8; refine (begun_any _).mono ?_; rintro e w' ⟨rfl, n, rfl⟩) | (go_at_call 14; (with_reducible refine (cg _).mono ?_); rintro e w' ⟨rfl, n, rfl⟩))
  go_ret
  exact ⟨rfl, _, rfl⟩

/-- A common divisor of two numbers of 64 bits that is none itself: both are 0 or the least. -/
theorem gcd_over {x y : Int} (hx : inr x = true) (h : inr (Nat.gcd x.natAbs y.natAbs : Nat) = false) : x = 0 ∨ x = -9223372036854775808 := by
  rw [inr_iff] at hx
  rw [inr_no] at h
  by_cases c : x = 0
  · exact Or.inl c
  · have := Nat.gcd_le_left y.natAbs (m := x.natAbs) (by omega)
    omega
theorem gcd_over' {x y : Int} (hy : inr y = true) (h : inr (Nat.gcd x.natAbs y.natAbs : Nat) = false) : y = 0 ∨ y = -9223372036854775808 := by
  rw [Nat.gcd_comm] at h
  exact gcd_over hy h
theorem tdiv_abs (x : Int) (g : Nat) : (x.tdiv g).natAbs = x.natAbs / g := by
  have e : (x.tdiv g).natAbs = x.natAbs / (g : Int).natAbs := Int.natAbs_tdiv x g
  simpa using e

theorem nat_dvd {m : Nat} {n : Int} (h : m ∣ n.natAbs) : (m : Int) ∣ n := Int.natAbs_dvd_natAbs.1 (by simpa using h)
theorem dvd_nat {m : Int} {n : Nat} (h : m.natAbs ∣ n) : m ∣ (n : Int) := Int.natAbs_dvd_natAbs.1 (by simpa using h)

theorem common_walk (x y d : Int) (hx : inr x = true) (hy : inr y = true) (hd : inr d = true) (w : World) :
    Calls Try.prog 6 #[.int .i64 x, .int .i64 y, .int .i64 d] w fun e w' => e = .returned (.bool true) ∧ ∃ n, w' = w.drewN n := by
  cases hG : inr (Nat.gcd x.natAbs y.natAbs : Nat)
  · rcases gcd_over hx hG with h1 | h1 <;> rcases gcd_over' hy hG with h2 | h2 <;> subst h1 h2
    · exact absurd hG (by decide)
    · exact common_over2 d w
    · exact common_over1 d w
    · exact common_over3 d w
  by_cases h00 : x = 0 ∧ y = 0
  · obtain ⟨rfl, rfl⟩ := h00
    exact common_none d w
  have cg := fun w => dyad14 x y hx hy w
  have cl := fun w => dyad15 x y hx hy w
  rw [cut_yes hG, ovr_yes hG] at cg
  have hpos : 0 < Nat.gcd x.natAbs y.natAbs := by
    rcases Nat.eq_zero_or_pos (Nat.gcd x.natAbs y.natAbs) with h | h
    · rw [Nat.gcd_eq_zero_iff] at h; omega
    · exact h
  have lc := lcm_div (a := x.natAbs) (b := y.natAbs)
  have dgx : ((Nat.gcd x.natAbs y.natAbs : Nat) : Int) ∣ x := nat_dvd (Nat.gcd_dvd_left _ _)
  have dgy : ((Nat.gcd x.natAbs y.natAbs : Nat) : Int) ∣ y := nat_dvd (Nat.gcd_dvd_right _ _)
  have dxl : x ∣ ((Nat.lcm x.natAbs y.natAbs : Nat) : Int) := dvd_nat (Nat.dvd_lcm_left _ _)
  have dyl : y ∣ ((Nat.lcm x.natAbs y.natAbs : Nat) : Int) := dvd_nat (Nat.dvd_lcm_right _ _)
  have ddg : d ∣ x → d ∣ y → d ∣ ((Nat.gcd x.natAbs y.natAbs : Nat) : Int) := fun h1 h2 => dvd_nat (Nat.dvd_gcd (Int.natAbs_dvd_natAbs.2 h1) (Int.natAbs_dvd_natAbs.2 h2))
  have lz : x = 0 ∨ y = 0 → Nat.lcm x.natAbs y.natAbs = 0 := by
    intro h
    rcases h with h | h <;> subst h
    · exact Nat.lcm_zero_left _
    · exact Nat.lcm_zero_right _
  have lpos : x ≠ 0 → y ≠ 0 → 0 < Nat.lcm x.natAbs y.natAbs := fun h1 h2 => Nat.lcm_pos (by omega) (by omega)
  generalize hgg : Nat.gcd x.natAbs y.natAbs = G at *
  generalize Nat.lcm x.natAbs y.natAbs = L at *
  have hg0 : (0 : Int) < (G : Int) := by omega
  have vgx := fun w => divides_any (G : Int) x (by omega) w
  have vgy := fun w => divides_any (G : Int) y (by omega) w
  rw [dvdB_yes dgx] at vgx
  rw [dvdB_yes dgy] at vgy
  have zin := tdiv_inr (inr_iff.1 hx) (a := (G : Int)) (by omega)
  have hq : wrap64 (x.tdiv (G : Int)) = x.tdiv (G : Int) := wrap_id zin
  have za := tdiv_abs x G
  have hz : inr (x.tdiv (G : Int)) = true := inr_iff.2 zin
  have ca := fun w => monad5 (x.tdiv (G : Int)) hz w
  have cb := fun w => monad5 y hy w
  have cm := fun w => mul64 (cut ((x.tdiv (G : Int)).natAbs : Nat)) (cut (y.natAbs : Nat)) (inr_cut _) (inr_cut _) w
  have vxl := fun (h : x ≠ 0) w => divides_any x (L : Int) h w
  have vyl := fun (h : y ≠ 0) w => divides_any y (L : Int) h w
  rw [dvdB_yes dxl] at vxl
  rw [dvdB_yes dyl] at vyl
  -- what the least multiple comes to
  have fin : ∀ (P : Prop), ((x = 0 → y ≠ 0 → (∀ w, Calls Try.prog 14 #[.int .i64 15, .int .i64 x, .int .i64 y] w fun e w' => e = .returned (.tuple #[.int .i64 0, .int .i64 0]) ∧ ∃ n, w' = w.drewN n) → P)) →
      ((x ≠ 0 → y = 0 → (∀ w, Calls Try.prog 14 #[.int .i64 15, .int .i64 x, .int .i64 y] w fun e w' => e = .returned (.tuple #[.int .i64 0, .int .i64 0]) ∧ ∃ n, w' = w.drewN n) → P)) →
      ((x ≠ 0 → y ≠ 0 → (∀ w, Calls Try.prog 14 #[.int .i64 15, .int .i64 x, .int .i64 y] w fun e w' => e = .returned (.tuple #[.int .i64 0, .int .i64 14]) ∧ ∃ n, w' = w.drewN n) → P)) →
      ((x ≠ 0 → y ≠ 0 → (0 : Int) < (L : Int) → inr (L : Nat) = true → (∀ w, Calls Try.prog 14 #[.int .i64 15, .int .i64 x, .int .i64 y] w fun e w' => e = .returned (.tuple #[.int .i64 (L : Nat), .int .i64 0]) ∧ ∃ n, w' = w.drewN n) → P)) → P := by
    intro P p1 p2 p3 p4
    by_cases c1 : x = 0
    · refine p1 c1 (by omega) ?_
      rw [lz (Or.inl c1)] at cl
      exact cl
    by_cases c2 : y = 0
    · refine p2 c1 c2 ?_
      rw [lz (Or.inr c2)] at cl
      exact cl
    cases hL : inr (L : Nat)
    · refine p3 c1 c2 ?_
      rw [cut_no hL, ovr_no hL] at cl
      exact cl
    · refine p4 c1 c2 ?_ hL ?_
      · have := lpos c1 c2; omega
      · rw [cut_yes hL, ovr_yes hL] at cl
        exact cl
  have prod : inr ((x.tdiv (G : Int)).natAbs : Nat) = true → inr (y.natAbs : Nat) = true → cut ((x.tdiv (G : Int)).natAbs : Nat) * cut (y.natAbs : Nat) = (L : Nat) := by
    intro h1 h2
    rw [cut_yes h1, cut_yes h2, za, ← lc, Int.natCast_mul]
  by_cases hd0 : d = 0
  · apply fin
    · intro c1 c2 cl'
      exact common_n_zx x y d _ hg0 hd0 c1 c2 cg vgx vgy cl' w
    · intro c1 c2 cl'
      exact common_n_zy x y d _ hg0 hd0 c1 c2 cg vgx vgy cl' w
    · intro c1 c2 cl'
      exact common_n_over x y d _ hg0 hd0 c1 c2 cg vgx vgy cl' w
    · intro c1 c2 hl hL cl'
      cases h1 : inr ((x.tdiv (G : Int)).natAbs : Nat)
      · rw [ovr_no h1] at ca
        exact common_n_i x y d _ _ _ _ _ _ _ _ hg0 hd0 c1 c2 hl hq cg vgx vgy cl' ca cb (vxl c1) (vyl c2) cm w
      · rw [ovr_yes h1] at ca
        cases h2 : inr (y.natAbs : Nat)
        · rw [ovr_no h2] at cb
          exact common_n_j x y d _ _ _ _ _ _ 0 _ hg0 hd0 c1 c2 hl hq cg vgx vgy cl' ca cb (vxl c1) (vyl c2) cm w
        · rw [ovr_yes h2] at cb
          rw [prod h1 h2, cut_yes hL, hL] at cm
          exact common_n_ok x y d _ _ _ _ _ 0 0 false hg0 hd0 c1 c2 hl hq cg vgx vgy cl' ca cb (vxl c1) (vyl c2) cm w
  have vdx := fun w => divides_any d x hd0 w
  have vdy := fun w => divides_any d y hd0 w
  have vdg := fun w => divides_any d (G : Int) hd0 w
  cases b1 : dvdB d x
  · rw [b1] at vdx
    apply fin
    · intro c1 c2 cl'
      exact common_x_zx x y d _ hg0 hd0 c1 c2 cg vgx vgy vdx cl' w
    · intro c1 c2 cl'
      exact common_x_zy x y d _ hg0 hd0 c1 c2 cg vgx vgy vdx cl' w
    · intro c1 c2 cl'
      exact common_x_over x y d _ hg0 hd0 c1 c2 cg vgx vgy vdx cl' w
    · intro c1 c2 hl hL cl'
      cases h1 : inr ((x.tdiv (G : Int)).natAbs : Nat)
      · rw [ovr_no h1] at ca
        exact common_x_i x y d _ _ _ _ _ _ _ _ hg0 hd0 c1 c2 hl hq cg vgx vgy vdx cl' ca cb (vxl c1) (vyl c2) cm w
      · rw [ovr_yes h1] at ca
        cases h2 : inr (y.natAbs : Nat)
        · rw [ovr_no h2] at cb
          exact common_x_j x y d _ _ _ _ _ _ 0 _ hg0 hd0 c1 c2 hl hq cg vgx vgy vdx cl' ca cb (vxl c1) (vyl c2) cm w
        · rw [ovr_yes h2] at cb
          rw [prod h1 h2, cut_yes hL, hL] at cm
          exact common_x_ok x y d _ _ _ _ _ 0 0 false hg0 hd0 c1 c2 hl hq cg vgx vgy vdx cl' ca cb (vxl c1) (vyl c2) cm w
  cases b2 : dvdB d y
  · rw [b1] at vdx
    rw [b2] at vdy
    apply fin
    · intro c1 c2 cl'
      exact common_y_zx x y d _ hg0 hd0 c1 c2 cg vgx vgy vdx vdy cl' w
    · intro c1 c2 cl'
      exact common_y_zy x y d _ hg0 hd0 c1 c2 cg vgx vgy vdx vdy cl' w
    · intro c1 c2 cl'
      exact common_y_over x y d _ hg0 hd0 c1 c2 cg vgx vgy vdx vdy cl' w
    · intro c1 c2 hl hL cl'
      cases h1 : inr ((x.tdiv (G : Int)).natAbs : Nat)
      · rw [ovr_no h1] at ca
        exact common_y_i x y d _ _ _ _ _ _ _ _ hg0 hd0 c1 c2 hl hq cg vgx vgy vdx vdy cl' ca cb (vxl c1) (vyl c2) cm w
      · rw [ovr_yes h1] at ca
        cases h2 : inr (y.natAbs : Nat)
        · rw [ovr_no h2] at cb
          exact common_y_j x y d _ _ _ _ _ _ 0 _ hg0 hd0 c1 c2 hl hq cg vgx vgy vdx vdy cl' ca cb (vxl c1) (vyl c2) cm w
        · rw [ovr_yes h2] at cb
          rw [prod h1 h2, cut_yes hL, hL] at cm
          exact common_y_ok x y d _ _ _ _ _ 0 0 false hg0 hd0 c1 c2 hl hq cg vgx vgy vdx vdy cl' ca cb (vxl c1) (vyl c2) cm w
  · rw [dvdB_yes (ddg (dvdB_dvd b1) (dvdB_dvd b2))] at vdg
    rw [b1] at vdx
    rw [b2] at vdy
    apply fin
    · intro c1 c2 cl'
      exact common_b_zx x y d _ hg0 hd0 c1 c2 cg vgx vgy vdx vdy vdg cl' w
    · intro c1 c2 cl'
      exact common_b_zy x y d _ hg0 hd0 c1 c2 cg vgx vgy vdx vdy vdg cl' w
    · intro c1 c2 cl'
      exact common_b_over x y d _ hg0 hd0 c1 c2 cg vgx vgy vdx vdy vdg cl' w
    · intro c1 c2 hl hL cl'
      cases h1 : inr ((x.tdiv (G : Int)).natAbs : Nat)
      · rw [ovr_no h1] at ca
        exact common_b_i x y d _ _ _ _ _ _ _ _ hg0 hd0 c1 c2 hl hq cg vgx vgy vdx vdy vdg cl' ca cb (vxl c1) (vyl c2) cm w
      · rw [ovr_yes h1] at ca
        cases h2 : inr (y.natAbs : Nat)
        · rw [ovr_no h2] at cb
          exact common_b_j x y d _ _ _ _ _ _ 0 _ hg0 hd0 c1 c2 hl hq cg vgx vgy vdx vdy vdg cl' ca cb (vxl c1) (vyl c2) cm w
        · rw [ovr_yes h2] at cb
          rw [prod h1 h2, cut_yes hL, hL] at cm
          exact common_b_ok x y d _ _ _ _ _ 0 0 false hg0 hd0 c1 c2 hl hq cg vgx vgy vdx vdy vdg cl' ca cb (vxl c1) (vyl c2) cm w
end Go.Proofs.Ytaajliecbchklaa
