/- The walk of the law NumCommon: for every three numbers of 64 bits it answers true. -/
import Derived.Test.YtaajliecbchklaaBegun
namespace Go.Proofs.Ytaajliecbchklaa
open Go.RowKit
set_option linter.unusedVariables false

def dvdB (d n : Int) : Bool := decide (d ∣ n)
theorem dvdB_yes {d n : Int} (h : d ∣ n) : dvdB d n = true := by unfold dvdB; simpa using h
theorem dvdB_dvd {d n : Int} (h : dvdB d n = true) : d ∣ n := by unfold dvdB at h; simpa using h
theorem divides_any (d n : Int) (hd : d ≠ 0) (w : World) :
    Calls Try.prog 15 #[.int .i64 d, .int .i64 n] w fun e w' => e = .returned (.bool (dvdB d n)) ∧ w' = w := by
  have d0 : (d == 0) = false := by simp [hd]
  by_cases h : d = -1
  · have e : dvdB d n = true := dvdB_yes ⟨-n, by rw [h]; omega⟩
    rw [e]
    have d1 : (d == -1) = true := by simp [h]
    clear h e
    go_enter Try.func15, Try.ntmps15
    go_wp2
    go_ret
    exact ⟨rfl, rfl⟩
  · have d1 : (d == -1) = false := by simp [h]
    have e : (n.tmod d == 0) = dvdB d n := by
      unfold dvdB
      by_cases c : d ∣ n
      · rw [Int.tmod_eq_zero_of_dvd c]; simp [c]
      · have c2 : n.tmod d ≠ 0 := fun z => c (Int.dvd_of_tmod_eq_zero z)
        simp [c, c2]
    clear h
    go_enter Try.func15, Try.ntmps15
    go_wp2
    go_ret
    exact ⟨ret_bool (by first | rfl | exact e), rfl⟩

set_option maxRecDepth 20000 in
theorem common_n_zx (x y d g : Int) (hg : 0 < g) (hd : d = 0) (hx : x = 0) (hy : y ≠ 0)
    (cg : ∀ w, Calls Try.prog 14 #[.int .i64 14, .int .i64 x, .int .i64 y] w fun e w' => e = .returned (.tuple #[.int .i64 g, .int .i64 0]) ∧ ∃ n, w' = w.drewN n)
    (vgx : ∀ w, Calls Try.prog 15 #[.int .i64 g, .int .i64 x] w fun e w' => e = .returned (.bool true) ∧ w' = w)
    (vgy : ∀ w, Calls Try.prog 15 #[.int .i64 g, .int .i64 y] w fun e w' => e = .returned (.bool true) ∧ w' = w)
    (cl : ∀ w, Calls Try.prog 14 #[.int .i64 15, .int .i64 x, .int .i64 y] w fun e w' => e = .returned (.tuple #[.int .i64 0, .int .i64 0]) ∧ ∃ n, w' = w.drewN n)
    (w : World) : Calls Try.prog 6 #[.int .i64 x, .int .i64 y, .int .i64 d] w fun e w' => e = .returned (.bool true) ∧ ∃ n, w' = w.drewN n := by
  have dd : (d != 0) = false := by simp [hd]
  clear hd
  have d1 : (x == 0) = true := by simp [hx]
  have d2 : (y == 0) = false := by simp [hy]
  have g1 : decide (g < 0) = false := by simp; omega
  have g2 : (g == 0) = false := by simp; omega
  clear hx hy
  go_enter Try.func6, Try.ntmps6
  go_wp2_with (first | (go_at_call 8; refine (begun_any _).mono ?_; rintro e w' ⟨rfl, n, rfl⟩) | (go_at_call 14; (with_reducible refine (cg _).mono ?_); rintro e w' ⟨rfl, n, rfl⟩) | (go_at_call 15; (with_reducible refine (vgx _).mono ?_); rintro e w' ⟨rfl, rfl⟩) | (go_at_call 15; (with_reducible refine (vgy _).mono ?_); rintro e w' ⟨rfl, rfl⟩) | (go_at_call 14; (with_reducible refine (cl _).mono ?_); rintro e w' ⟨rfl, n, rfl⟩))
  go_ret
  exact ⟨rfl, _, rfl⟩
set_option maxRecDepth 20000 in
theorem common_n_zy (x y d g : Int) (hg : 0 < g) (hd : d = 0) (hx : x ≠ 0) (hy : y = 0)
    (cg : ∀ w, Calls Try.prog 14 #[.int .i64 14, .int .i64 x, .int .i64 y] w fun e w' => e = .returned (.tuple #[.int .i64 g, .int .i64 0]) ∧ ∃ n, w' = w.drewN n)
    (vgx : ∀ w, Calls Try.prog 15 #[.int .i64 g, .int .i64 x] w fun e w' => e = .returned (.bool true) ∧ w' = w)
    (vgy : ∀ w, Calls Try.prog 15 #[.int .i64 g, .int .i64 y] w fun e w' => e = .returned (.bool true) ∧ w' = w)
    (cl : ∀ w, Calls Try.prog 14 #[.int .i64 15, .int .i64 x, .int .i64 y] w fun e w' => e = .returned (.tuple #[.int .i64 0, .int .i64 0]) ∧ ∃ n, w' = w.drewN n)
    (w : World) : Calls Try.prog 6 #[.int .i64 x, .int .i64 y, .int .i64 d] w fun e w' => e = .returned (.bool true) ∧ ∃ n, w' = w.drewN n := by
  have dd : (d != 0) = false := by simp [hd]
  clear hd
  have d1 : (x == 0) = false := by simp [hx]
  have d2 : (y == 0) = true := by simp [hy]
  have g1 : decide (g < 0) = false := by simp; omega
  have g2 : (g == 0) = false := by simp; omega
  clear hx hy
  go_enter Try.func6, Try.ntmps6
  go_wp2_with (first | (go_at_call 8; refine (begun_any _).mono ?_; rintro e w' ⟨rfl, n, rfl⟩) | (go_at_call 14; (with_reducible refine (cg _).mono ?_); rintro e w' ⟨rfl, n, rfl⟩) | (go_at_call 15; (with_reducible refine (vgx _).mono ?_); rintro e w' ⟨rfl, rfl⟩) | (go_at_call 15; (with_reducible refine (vgy _).mono ?_); rintro e w' ⟨rfl, rfl⟩) | (go_at_call 14; (with_reducible refine (cl _).mono ?_); rintro e w' ⟨rfl, n, rfl⟩))
  go_ret
  exact ⟨rfl, _, rfl⟩
set_option maxRecDepth 20000 in
theorem common_n_over (x y d g : Int) (hg : 0 < g) (hd : d = 0) (hx : x ≠ 0) (hy : y ≠ 0)
    (cg : ∀ w, Calls Try.prog 14 #[.int .i64 14, .int .i64 x, .int .i64 y] w fun e w' => e = .returned (.tuple #[.int .i64 g, .int .i64 0]) ∧ ∃ n, w' = w.drewN n)
    (vgx : ∀ w, Calls Try.prog 15 #[.int .i64 g, .int .i64 x] w fun e w' => e = .returned (.bool true) ∧ w' = w)
    (vgy : ∀ w, Calls Try.prog 15 #[.int .i64 g, .int .i64 y] w fun e w' => e = .returned (.bool true) ∧ w' = w)
    (cl : ∀ w, Calls Try.prog 14 #[.int .i64 15, .int .i64 x, .int .i64 y] w fun e w' => e = .returned (.tuple #[.int .i64 0, .int .i64 14]) ∧ ∃ n, w' = w.drewN n)
    (w : World) : Calls Try.prog 6 #[.int .i64 x, .int .i64 y, .int .i64 d] w fun e w' => e = .returned (.bool true) ∧ ∃ n, w' = w.drewN n := by
  have dd : (d != 0) = false := by simp [hd]
  clear hd
  have d1 : (x == 0) = false := by simp [hx]
  have d2 : (y == 0) = false := by simp [hy]
  have g1 : decide (g < 0) = false := by simp; omega
  have g2 : (g == 0) = false := by simp; omega
  clear hx hy
  go_enter Try.func6, Try.ntmps6
  go_wp2_with (first | (go_at_call 8; refine (begun_any _).mono ?_; rintro e w' ⟨rfl, n, rfl⟩) | (go_at_call 14; (with_reducible refine (cg _).mono ?_); rintro e w' ⟨rfl, n, rfl⟩) | (go_at_call 15; (with_reducible refine (vgx _).mono ?_); rintro e w' ⟨rfl, rfl⟩) | (go_at_call 15; (with_reducible refine (vgy _).mono ?_); rintro e w' ⟨rfl, rfl⟩) | (go_at_call 14; (with_reducible refine (cl _).mono ?_); rintro e w' ⟨rfl, n, rfl⟩))
  go_ret
  exact ⟨rfl, _, rfl⟩
set_option maxRecDepth 20000 in
theorem common_n_i (x y d g : Int) (l z a b c J : Int) (k : Bool) (hg : 0 < g) (hd : d = 0) (hx : x ≠ 0) (hy : y ≠ 0) (hl : 0 < l) (hq : wrap64 (x.tdiv g) = z)
    (cg : ∀ w, Calls Try.prog 14 #[.int .i64 14, .int .i64 x, .int .i64 y] w fun e w' => e = .returned (.tuple #[.int .i64 g, .int .i64 0]) ∧ ∃ n, w' = w.drewN n)
    (vgx : ∀ w, Calls Try.prog 15 #[.int .i64 g, .int .i64 x] w fun e w' => e = .returned (.bool true) ∧ w' = w)
    (vgy : ∀ w, Calls Try.prog 15 #[.int .i64 g, .int .i64 y] w fun e w' => e = .returned (.bool true) ∧ w' = w)
    (cl : ∀ w, Calls Try.prog 14 #[.int .i64 15, .int .i64 x, .int .i64 y] w fun e w' => e = .returned (.tuple #[.int .i64 l, .int .i64 0]) ∧ ∃ n, w' = w.drewN n)
    (ca : ∀ w, Calls Try.prog 16 #[.int .i64 5, .int .i64 z] w fun e w' => e = .returned (.tuple #[.int .i64 a, .int .i64 14]) ∧ w' = w)
    (cb : ∀ w, Calls Try.prog 16 #[.int .i64 5, .int .i64 y] w fun e w' => e = .returned (.tuple #[.int .i64 b, .int .i64 J]) ∧ w' = w)
    (vxl : ∀ w, Calls Try.prog 15 #[.int .i64 x, .int .i64 l] w fun e w' => e = .returned (.bool true) ∧ w' = w)
    (vyl : ∀ w, Calls Try.prog 15 #[.int .i64 y, .int .i64 l] w fun e w' => e = .returned (.bool true) ∧ w' = w)
    (cm : ∀ w, Calls Try.prog 17 #[.int .i64 a, .int .i64 b] w fun e w' => e = .returned (.tuple #[.int .i64 c, .bool k]) ∧ w' = w)
    (w : World) : Calls Try.prog 6 #[.int .i64 x, .int .i64 y, .int .i64 d] w fun e w' => e = .returned (.bool true) ∧ ∃ n, w' = w.drewN n := by
  have dd : (d != 0) = false := by simp [hd]
  clear hd
  have d1 : (x == 0) = false := by simp [hx]
  have d2 : (y == 0) = false := by simp [hy]
  have d3 : decide (0 < l) = true := by simpa using hl
  have d4 : (l == l) = true := by simp
  have g1 : decide (g < 0) = false := by simp; omega
  have g2 : (g == 0) = false := by simp; omega
  clear hx hy
  go_enter Try.func6, Try.ntmps6
  go_wp2_with (first | (go_at_call 8; refine (begun_any _).mono ?_; rintro e w' ⟨rfl, n, rfl⟩) | (go_at_call 14; (with_reducible refine (cg _).mono ?_); rintro e w' ⟨rfl, n, rfl⟩) | (go_at_call 15; (with_reducible refine (vgx _).mono ?_); rintro e w' ⟨rfl, rfl⟩) | (go_at_call 15; (with_reducible refine (vgy _).mono ?_); rintro e w' ⟨rfl, rfl⟩) | (go_at_call 14; (with_reducible refine (cl _).mono ?_); rintro e w' ⟨rfl, n, rfl⟩) | (go_at_call 16; (with_reducible refine (ca _).mono ?_); rintro e w' ⟨rfl, rfl⟩) | (go_at_call 16; (with_reducible refine (cb _).mono ?_); rintro e w' ⟨rfl, rfl⟩) | (go_at_call 15; (with_reducible refine (vxl _).mono ?_); rintro e w' ⟨rfl, rfl⟩) | (go_at_call 15; (with_reducible refine (vyl _).mono ?_); rintro e w' ⟨rfl, rfl⟩) | (go_at_call 17; (with_reducible refine (cm _).mono ?_); rintro e w' ⟨rfl, rfl⟩))
  go_ret
  exact ⟨rfl, _, rfl⟩
set_option maxRecDepth 20000 in
theorem common_n_j (x y d g : Int) (l z a b c J : Int) (k : Bool) (hg : 0 < g) (hd : d = 0) (hx : x ≠ 0) (hy : y ≠ 0) (hl : 0 < l) (hq : wrap64 (x.tdiv g) = z)
    (cg : ∀ w, Calls Try.prog 14 #[.int .i64 14, .int .i64 x, .int .i64 y] w fun e w' => e = .returned (.tuple #[.int .i64 g, .int .i64 0]) ∧ ∃ n, w' = w.drewN n)
    (vgx : ∀ w, Calls Try.prog 15 #[.int .i64 g, .int .i64 x] w fun e w' => e = .returned (.bool true) ∧ w' = w)
    (vgy : ∀ w, Calls Try.prog 15 #[.int .i64 g, .int .i64 y] w fun e w' => e = .returned (.bool true) ∧ w' = w)
    (cl : ∀ w, Calls Try.prog 14 #[.int .i64 15, .int .i64 x, .int .i64 y] w fun e w' => e = .returned (.tuple #[.int .i64 l, .int .i64 0]) ∧ ∃ n, w' = w.drewN n)
    (ca : ∀ w, Calls Try.prog 16 #[.int .i64 5, .int .i64 z] w fun e w' => e = .returned (.tuple #[.int .i64 a, .int .i64 0]) ∧ w' = w)
    (cb : ∀ w, Calls Try.prog 16 #[.int .i64 5, .int .i64 y] w fun e w' => e = .returned (.tuple #[.int .i64 b, .int .i64 14]) ∧ w' = w)
    (vxl : ∀ w, Calls Try.prog 15 #[.int .i64 x, .int .i64 l] w fun e w' => e = .returned (.bool true) ∧ w' = w)
    (vyl : ∀ w, Calls Try.prog 15 #[.int .i64 y, .int .i64 l] w fun e w' => e = .returned (.bool true) ∧ w' = w)
    (cm : ∀ w, Calls Try.prog 17 #[.int .i64 a, .int .i64 b] w fun e w' => e = .returned (.tuple #[.int .i64 c, .bool k]) ∧ w' = w)
    (w : World) : Calls Try.prog 6 #[.int .i64 x, .int .i64 y, .int .i64 d] w fun e w' => e = .returned (.bool true) ∧ ∃ n, w' = w.drewN n := by
  have dd : (d != 0) = false := by simp [hd]
  clear hd
  have d1 : (x == 0) = false := by simp [hx]
  have d2 : (y == 0) = false := by simp [hy]
  have d3 : decide (0 < l) = true := by simpa using hl
  have d4 : (l == l) = true := by simp
  have g1 : decide (g < 0) = false := by simp; omega
  have g2 : (g == 0) = false := by simp; omega
  clear hx hy
  go_enter Try.func6, Try.ntmps6
  go_wp2_with (first | (go_at_call 8; refine (begun_any _).mono ?_; rintro e w' ⟨rfl, n, rfl⟩) | (go_at_call 14; (with_reducible refine (cg _).mono ?_); rintro e w' ⟨rfl, n, rfl⟩) | (go_at_call 15; (with_reducible refine (vgx _).mono ?_); rintro e w' ⟨rfl, rfl⟩) | (go_at_call 15; (with_reducible refine (vgy _).mono ?_); rintro e w' ⟨rfl, rfl⟩) | (go_at_call 14; (with_reducible refine (cl _).mono ?_); rintro e w' ⟨rfl, n, rfl⟩) | (go_at_call 16; (with_reducible refine (ca _).mono ?_); rintro e w' ⟨rfl, rfl⟩) | (go_at_call 16; (with_reducible refine (cb _).mono ?_); rintro e w' ⟨rfl, rfl⟩) | (go_at_call 15; (with_reducible refine (vxl _).mono ?_); rintro e w' ⟨rfl, rfl⟩) | (go_at_call 15; (with_reducible refine (vyl _).mono ?_); rintro e w' ⟨rfl, rfl⟩) | (go_at_call 17; (with_reducible refine (cm _).mono ?_); rintro e w' ⟨rfl, rfl⟩))
  go_ret
  exact ⟨rfl, _, rfl⟩
set_option maxRecDepth 20000 in
theorem common_n_ok (x y d g : Int) (l z a b c J : Int) (k : Bool) (hg : 0 < g) (hd : d = 0) (hx : x ≠ 0) (hy : y ≠ 0) (hl : 0 < l) (hq : wrap64 (x.tdiv g) = z)
    (cg : ∀ w, Calls Try.prog 14 #[.int .i64 14, .int .i64 x, .int .i64 y] w fun e w' => e = .returned (.tuple #[.int .i64 g, .int .i64 0]) ∧ ∃ n, w' = w.drewN n)
    (vgx : ∀ w, Calls Try.prog 15 #[.int .i64 g, .int .i64 x] w fun e w' => e = .returned (.bool true) ∧ w' = w)
    (vgy : ∀ w, Calls Try.prog 15 #[.int .i64 g, .int .i64 y] w fun e w' => e = .returned (.bool true) ∧ w' = w)
    (cl : ∀ w, Calls Try.prog 14 #[.int .i64 15, .int .i64 x, .int .i64 y] w fun e w' => e = .returned (.tuple #[.int .i64 l, .int .i64 0]) ∧ ∃ n, w' = w.drewN n)
    (ca : ∀ w, Calls Try.prog 16 #[.int .i64 5, .int .i64 z] w fun e w' => e = .returned (.tuple #[.int .i64 a, .int .i64 0]) ∧ w' = w)
    (cb : ∀ w, Calls Try.prog 16 #[.int .i64 5, .int .i64 y] w fun e w' => e = .returned (.tuple #[.int .i64 b, .int .i64 0]) ∧ w' = w)
    (vxl : ∀ w, Calls Try.prog 15 #[.int .i64 x, .int .i64 l] w fun e w' => e = .returned (.bool true) ∧ w' = w)
    (vyl : ∀ w, Calls Try.prog 15 #[.int .i64 y, .int .i64 l] w fun e w' => e = .returned (.bool true) ∧ w' = w)
    (cm : ∀ w, Calls Try.prog 17 #[.int .i64 a, .int .i64 b] w fun e w' => e = .returned (.tuple #[.int .i64 l, .bool true]) ∧ w' = w)
    (w : World) : Calls Try.prog 6 #[.int .i64 x, .int .i64 y, .int .i64 d] w fun e w' => e = .returned (.bool true) ∧ ∃ n, w' = w.drewN n := by
  have dd : (d != 0) = false := by simp [hd]
  clear hd
  have d1 : (x == 0) = false := by simp [hx]
  have d2 : (y == 0) = false := by simp [hy]
  have d3 : decide (0 < l) = true := by simpa using hl
  have d4 : (l == l) = true := by simp
  have g1 : decide (g < 0) = false := by simp; omega
  have g2 : (g == 0) = false := by simp; omega
  clear hx hy
  go_enter Try.func6, Try.ntmps6
  go_wp2_with (first | (go_at_call 8; refine (begun_any _).mono ?_; rintro e w' ⟨rfl, n, rfl⟩) | (go_at_call 14; (with_reducible refine (cg _).mono ?_); rintro e w' ⟨rfl, n, rfl⟩) | (go_at_call 15; (with_reducible refine (vgx _).mono ?_); rintro e w' ⟨rfl, rfl⟩) | (go_at_call 15; (with_reducible refine (vgy _).mono ?_); rintro e w' ⟨rfl, rfl⟩) | (go_at_call 14; (with_reducible refine (cl _).mono ?_); rintro e w' ⟨rfl, n, rfl⟩) | (go_at_call 16; (with_reducible refine (ca _).mono ?_); rintro e w' ⟨rfl, rfl⟩) | (go_at_call 16; (with_reducible refine (cb _).mono ?_); rintro e w' ⟨rfl, rfl⟩) | (go_at_call 15; (with_reducible refine (vxl _).mono ?_); rintro e w' ⟨rfl, rfl⟩) | (go_at_call 15; (with_reducible refine (vyl _).mono ?_); rintro e w' ⟨rfl, rfl⟩) | (go_at_call 17; (with_reducible refine (cm _).mono ?_); rintro e w' ⟨rfl, rfl⟩))
  go_ret
  exact ⟨rfl, _, rfl⟩
set_option maxRecDepth 20000 in
theorem common_x_zx (x y d g : Int) (hg : 0 < g) (hd : d ≠ 0) (hx : x = 0) (hy : y ≠ 0)
    (cg : ∀ w, Calls Try.prog 14 #[.int .i64 14, .int .i64 x, .int .i64 y] w fun e w' => e = .returned (.tuple #[.int .i64 g, .int .i64 0]) ∧ ∃ n, w' = w.drewN n)
    (vgx : ∀ w, Calls Try.prog 15 #[.int .i64 g, .int .i64 x] w fun e w' => e = .returned (.bool true) ∧ w' = w)
    (vgy : ∀ w, Calls Try.prog 15 #[.int .i64 g, .int .i64 y] w fun e w' => e = .returned (.bool true) ∧ w' = w)
    (vdx : ∀ w, Calls Try.prog 15 #[.int .i64 d, .int .i64 x] w fun e w' => e = .returned (.bool false) ∧ w' = w)
    (cl : ∀ w, Calls Try.prog 14 #[.int .i64 15, .int .i64 x, .int .i64 y] w fun e w' => e = .returned (.tuple #[.int .i64 0, .int .i64 0]) ∧ ∃ n, w' = w.drewN n)
    (w : World) : Calls Try.prog 6 #[.int .i64 x, .int .i64 y, .int .i64 d] w fun e w' => e = .returned (.bool true) ∧ ∃ n, w' = w.drewN n := by
  have dd : (d != 0) = true := by simp [hd]
  clear hd
  have d1 : (x == 0) = true := by simp [hx]
  have d2 : (y == 0) = false := by simp [hy]
  have g1 : decide (g < 0) = false := by simp; omega
  have g2 : (g == 0) = false := by simp; omega
  clear hx hy
  go_enter Try.func6, Try.ntmps6
  go_wp2_with (first | (go_at_call 8; refine (begun_any _).mono ?_; rintro e w' ⟨rfl, n, rfl⟩) | (go_at_call 14; (with_reducible refine (cg _).mono ?_); rintro e w' ⟨rfl, n, rfl⟩) | (go_at_call 15; (with_reducible refine (vgx _).mono ?_); rintro e w' ⟨rfl, rfl⟩) | (go_at_call 15; (with_reducible refine (vgy _).mono ?_); rintro e w' ⟨rfl, rfl⟩) | (go_at_call 15; (with_reducible refine (vdx _).mono ?_); rintro e w' ⟨rfl, rfl⟩) | (go_at_call 14; (with_reducible refine (cl _).mono ?_); rintro e w' ⟨rfl, n, rfl⟩))
  go_ret
  exact ⟨rfl, _, rfl⟩
set_option maxRecDepth 20000 in
theorem common_x_zy (x y d g : Int) (hg : 0 < g) (hd : d ≠ 0) (hx : x ≠ 0) (hy : y = 0)
    (cg : ∀ w, Calls Try.prog 14 #[.int .i64 14, .int .i64 x, .int .i64 y] w fun e w' => e = .returned (.tuple #[.int .i64 g, .int .i64 0]) ∧ ∃ n, w' = w.drewN n)
    (vgx : ∀ w, Calls Try.prog 15 #[.int .i64 g, .int .i64 x] w fun e w' => e = .returned (.bool true) ∧ w' = w)
    (vgy : ∀ w, Calls Try.prog 15 #[.int .i64 g, .int .i64 y] w fun e w' => e = .returned (.bool true) ∧ w' = w)
    (vdx : ∀ w, Calls Try.prog 15 #[.int .i64 d, .int .i64 x] w fun e w' => e = .returned (.bool false) ∧ w' = w)
    (cl : ∀ w, Calls Try.prog 14 #[.int .i64 15, .int .i64 x, .int .i64 y] w fun e w' => e = .returned (.tuple #[.int .i64 0, .int .i64 0]) ∧ ∃ n, w' = w.drewN n)
    (w : World) : Calls Try.prog 6 #[.int .i64 x, .int .i64 y, .int .i64 d] w fun e w' => e = .returned (.bool true) ∧ ∃ n, w' = w.drewN n := by
  have dd : (d != 0) = true := by simp [hd]
  clear hd
  have d1 : (x == 0) = false := by simp [hx]
  have d2 : (y == 0) = true := by simp [hy]
  have g1 : decide (g < 0) = false := by simp; omega
  have g2 : (g == 0) = false := by simp; omega
  clear hx hy
  go_enter Try.func6, Try.ntmps6
  go_wp2_with (first | (go_at_call 8; refine (begun_any _).mono ?_; rintro e w' ⟨rfl, n, rfl⟩) | (go_at_call 14; (with_reducible refine (cg _).mono ?_); rintro e w' ⟨rfl, n, rfl⟩) | (go_at_call 15; (with_reducible refine (vgx _).mono ?_); rintro e w' ⟨rfl, rfl⟩) | (go_at_call 15; (with_reducible refine (vgy _).mono ?_); rintro e w' ⟨rfl, rfl⟩) | (go_at_call 15; (with_reducible refine (vdx _).mono ?_); rintro e w' ⟨rfl, rfl⟩) | (go_at_call 14; (with_reducible refine (cl _).mono ?_); rintro e w' ⟨rfl, n, rfl⟩))
  go_ret
  exact ⟨rfl, _, rfl⟩
set_option maxRecDepth 20000 in
theorem common_x_over (x y d g : Int) (hg : 0 < g) (hd : d ≠ 0) (hx : x ≠ 0) (hy : y ≠ 0)
    (cg : ∀ w, Calls Try.prog 14 #[.int .i64 14, .int .i64 x, .int .i64 y] w fun e w' => e = .returned (.tuple #[.int .i64 g, .int .i64 0]) ∧ ∃ n, w' = w.drewN n)
    (vgx : ∀ w, Calls Try.prog 15 #[.int .i64 g, .int .i64 x] w fun e w' => e = .returned (.bool true) ∧ w' = w)
    (vgy : ∀ w, Calls Try.prog 15 #[.int .i64 g, .int .i64 y] w fun e w' => e = .returned (.bool true) ∧ w' = w)
    (vdx : ∀ w, Calls Try.prog 15 #[.int .i64 d, .int .i64 x] w fun e w' => e = .returned (.bool false) ∧ w' = w)
    (cl : ∀ w, Calls Try.prog 14 #[.int .i64 15, .int .i64 x, .int .i64 y] w fun e w' => e = .returned (.tuple #[.int .i64 0, .int .i64 14]) ∧ ∃ n, w' = w.drewN n)
    (w : World) : Calls Try.prog 6 #[.int .i64 x, .int .i64 y, .int .i64 d] w fun e w' => e = .returned (.bool true) ∧ ∃ n, w' = w.drewN n := by
  have dd : (d != 0) = true := by simp [hd]
  clear hd
  have d1 : (x == 0) = false := by simp [hx]
  have d2 : (y == 0) = false := by simp [hy]
  have g1 : decide (g < 0) = false := by simp; omega
  have g2 : (g == 0) = false := by simp; omega
  clear hx hy
  go_enter Try.func6, Try.ntmps6
  go_wp2_with (first | (go_at_call 8; refine (begun_any _).mono ?_; rintro e w' ⟨rfl, n, rfl⟩) | (go_at_call 14; (with_reducible refine (cg _).mono ?_); rintro e w' ⟨rfl, n, rfl⟩) | (go_at_call 15; (with_reducible refine (vgx _).mono ?_); rintro e w' ⟨rfl, rfl⟩) | (go_at_call 15; (with_reducible refine (vgy _).mono ?_); rintro e w' ⟨rfl, rfl⟩) | (go_at_call 15; (with_reducible refine (vdx _).mono ?_); rintro e w' ⟨rfl, rfl⟩) | (go_at_call 14; (with_reducible refine (cl _).mono ?_); rintro e w' ⟨rfl, n, rfl⟩))
  go_ret
  exact ⟨rfl, _, rfl⟩
set_option maxRecDepth 20000 in
theorem common_x_i (x y d g : Int) (l z a b c J : Int) (k : Bool) (hg : 0 < g) (hd : d ≠ 0) (hx : x ≠ 0) (hy : y ≠ 0) (hl : 0 < l) (hq : wrap64 (x.tdiv g) = z)
    (cg : ∀ w, Calls Try.prog 14 #[.int .i64 14, .int .i64 x, .int .i64 y] w fun e w' => e = .returned (.tuple #[.int .i64 g, .int .i64 0]) ∧ ∃ n, w' = w.drewN n)
    (vgx : ∀ w, Calls Try.prog 15 #[.int .i64 g, .int .i64 x] w fun e w' => e = .returned (.bool true) ∧ w' = w)
    (vgy : ∀ w, Calls Try.prog 15 #[.int .i64 g, .int .i64 y] w fun e w' => e = .returned (.bool true) ∧ w' = w)
    (vdx : ∀ w, Calls Try.prog 15 #[.int .i64 d, .int .i64 x] w fun e w' => e = .returned (.bool false) ∧ w' = w)
    (cl : ∀ w, Calls Try.prog 14 #[.int .i64 15, .int .i64 x, .int .i64 y] w fun e w' => e = .returned (.tuple #[.int .i64 l, .int .i64 0]) ∧ ∃ n, w' = w.drewN n)
    (ca : ∀ w, Calls Try.prog 16 #[.int .i64 5, .int .i64 z] w fun e w' => e = .returned (.tuple #[.int .i64 a, .int .i64 14]) ∧ w' = w)
    (cb : ∀ w, Calls Try.prog 16 #[.int .i64 5, .int .i64 y] w fun e w' => e = .returned (.tuple #[.int .i64 b, .int .i64 J]) ∧ w' = w)
    (vxl : ∀ w, Calls Try.prog 15 #[.int .i64 x, .int .i64 l] w fun e w' => e = .returned (.bool true) ∧ w' = w)
    (vyl : ∀ w, Calls Try.prog 15 #[.int .i64 y, .int .i64 l] w fun e w' => e = .returned (.bool true) ∧ w' = w)
    (cm : ∀ w, Calls Try.prog 17 #[.int .i64 a, .int .i64 b] w fun e w' => e = .returned (.tuple #[.int .i64 c, .bool k]) ∧ w' = w)
    (w : World) : Calls Try.prog 6 #[.int .i64 x, .int .i64 y, .int .i64 d] w fun e w' => e = .returned (.bool true) ∧ ∃ n, w' = w.drewN n := by
  have dd : (d != 0) = true := by simp [hd]
  clear hd
  have d1 : (x == 0) = false := by simp [hx]
  have d2 : (y == 0) = false := by simp [hy]
  have d3 : decide (0 < l) = true := by simpa using hl
  have d4 : (l == l) = true := by simp
  have g1 : decide (g < 0) = false := by simp; omega
  have g2 : (g == 0) = false := by simp; omega
  clear hx hy
  go_enter Try.func6, Try.ntmps6
  go_wp2_with (first | (go_at_call 8; refine (begun_any _).mono ?_; rintro e w' ⟨rfl, n, rfl⟩) | (go_at_call 14; (with_reducible refine (cg _).mono ?_); rintro e w' ⟨rfl, n, rfl⟩) | (go_at_call 15; (with_reducible refine (vgx _).mono ?_); rintro e w' ⟨rfl, rfl⟩) | (go_at_call 15; (with_reducible refine (vgy _).mono ?_); rintro e w' ⟨rfl, rfl⟩) | (go_at_call 15; (with_reducible refine (vdx _).mono ?_); rintro e w' ⟨rfl, rfl⟩) | (go_at_call 14; (with_reducible refine (cl _).mono ?_); rintro e w' ⟨rfl, n, rfl⟩) | (go_at_call 16; (with_reducible refine (ca _).mono ?_); rintro e w' ⟨rfl, rfl⟩) | (go_at_call 16; (with_reducible refine (cb _).mono ?_); rintro e w' ⟨rfl, rfl⟩) | (go_at_call 15; (with_reducible refine (vxl _).mono ?_); rintro e w' ⟨rfl, rfl⟩) | (go_at_call 15; (with_reducible refine (vyl _).mono ?_); rintro e w' ⟨rfl, rfl⟩) | (go_at_call 17; (with_reducible refine (cm _).mono ?_); rintro e w' ⟨rfl, rfl⟩))
  go_ret
  exact ⟨rfl, _, rfl⟩
set_option maxRecDepth 20000 in
theorem common_x_j (x y d g : Int) (l z a b c J : Int) (k : Bool) (hg : 0 < g) (hd : d ≠ 0) (hx : x ≠ 0) (hy : y ≠ 0) (hl : 0 < l) (hq : wrap64 (x.tdiv g) = z)
    (cg : ∀ w, Calls Try.prog 14 #[.int .i64 14, .int .i64 x, .int .i64 y] w fun e w' => e = .returned (.tuple #[.int .i64 g, .int .i64 0]) ∧ ∃ n, w' = w.drewN n)
    (vgx : ∀ w, Calls Try.prog 15 #[.int .i64 g, .int .i64 x] w fun e w' => e = .returned (.bool true) ∧ w' = w)
    (vgy : ∀ w, Calls Try.prog 15 #[.int .i64 g, .int .i64 y] w fun e w' => e = .returned (.bool true) ∧ w' = w)
    (vdx : ∀ w, Calls Try.prog 15 #[.int .i64 d, .int .i64 x] w fun e w' => e = .returned (.bool false) ∧ w' = w)
    (cl : ∀ w, Calls Try.prog 14 #[.int .i64 15, .int .i64 x, .int .i64 y] w fun e w' => e = .returned (.tuple #[.int .i64 l, .int .i64 0]) ∧ ∃ n, w' = w.drewN n)
    (ca : ∀ w, Calls Try.prog 16 #[.int .i64 5, .int .i64 z] w fun e w' => e = .returned (.tuple #[.int .i64 a, .int .i64 0]) ∧ w' = w)
    (cb : ∀ w, Calls Try.prog 16 #[.int .i64 5, .int .i64 y] w fun e w' => e = .returned (.tuple #[.int .i64 b, .int .i64 14]) ∧ w' = w)
    (vxl : ∀ w, Calls Try.prog 15 #[.int .i64 x, .int .i64 l] w fun e w' => e = .returned (.bool true) ∧ w' = w)
    (vyl : ∀ w, Calls Try.prog 15 #[.int .i64 y, .int .i64 l] w fun e w' => e = .returned (.bool true) ∧ w' = w)
    (cm : ∀ w, Calls Try.prog 17 #[.int .i64 a, .int .i64 b] w fun e w' => e = .returned (.tuple #[.int .i64 c, .bool k]) ∧ w' = w)
    (w : World) : Calls Try.prog 6 #[.int .i64 x, .int .i64 y, .int .i64 d] w fun e w' => e = .returned (.bool true) ∧ ∃ n, w' = w.drewN n := by
  have dd : (d != 0) = true := by simp [hd]
  clear hd
  have d1 : (x == 0) = false := by simp [hx]
  have d2 : (y == 0) = false := by simp [hy]
  have d3 : decide (0 < l) = true := by simpa using hl
  have d4 : (l == l) = true := by simp
  have g1 : decide (g < 0) = false := by simp; omega
  have g2 : (g == 0) = false := by simp; omega
  clear hx hy
  go_enter Try.func6, Try.ntmps6
  go_wp2_with (first | (go_at_call 8; refine (begun_any _).mono ?_; rintro e w' ⟨rfl, n, rfl⟩) | (go_at_call 14; (with_reducible refine (cg _).mono ?_); rintro e w' ⟨rfl, n, rfl⟩) | (go_at_call 15; (with_reducible refine (vgx _).mono ?_); rintro e w' ⟨rfl, rfl⟩) | (go_at_call 15; (with_reducible refine (vgy _).mono ?_); rintro e w' ⟨rfl, rfl⟩) | (go_at_call 15; (with_reducible refine (vdx _).mono ?_); rintro e w' ⟨rfl, rfl⟩) | (go_at_call 14; (with_reducible refine (cl _).mono ?_); rintro e w' ⟨rfl, n, rfl⟩) | (go_at_call 16; (with_reducible refine (ca _).mono ?_); rintro e w' ⟨rfl, rfl⟩) | (go_at_call 16; (with_reducible refine (cb _).mono ?_); rintro e w' ⟨rfl, rfl⟩) | (go_at_call 15; (with_reducible refine (vxl _).mono ?_); rintro e w' ⟨rfl, rfl⟩) | (go_at_call 15; (with_reducible refine (vyl _).mono ?_); rintro e w' ⟨rfl, rfl⟩) | (go_at_call 17; (with_reducible refine (cm _).mono ?_); rintro e w' ⟨rfl, rfl⟩))
  go_ret
  exact ⟨rfl, _, rfl⟩
set_option maxRecDepth 20000 in
theorem common_x_ok (x y d g : Int) (l z a b c J : Int) (k : Bool) (hg : 0 < g) (hd : d ≠ 0) (hx : x ≠ 0) (hy : y ≠ 0) (hl : 0 < l) (hq : wrap64 (x.tdiv g) = z)
    (cg : ∀ w, Calls Try.prog 14 #[.int .i64 14, .int .i64 x, .int .i64 y] w fun e w' => e = .returned (.tuple #[.int .i64 g, .int .i64 0]) ∧ ∃ n, w' = w.drewN n)
    (vgx : ∀ w, Calls Try.prog 15 #[.int .i64 g, .int .i64 x] w fun e w' => e = .returned (.bool true) ∧ w' = w)
    (vgy : ∀ w, Calls Try.prog 15 #[.int .i64 g, .int .i64 y] w fun e w' => e = .returned (.bool true) ∧ w' = w)
    (vdx : ∀ w, Calls Try.prog 15 #[.int .i64 d, .int .i64 x] w fun e w' => e = .returned (.bool false) ∧ w' = w)
    (cl : ∀ w, Calls Try.prog 14 #[.int .i64 15, .int .i64 x, .int .i64 y] w fun e w' => e = .returned (.tuple #[.int .i64 l, .int .i64 0]) ∧ ∃ n, w' = w.drewN n)
    (ca : ∀ w, Calls Try.prog 16 #[.int .i64 5, .int .i64 z] w fun e w' => e = .returned (.tuple #[.int .i64 a, .int .i64 0]) ∧ w' = w)
    (cb : ∀ w, Calls Try.prog 16 #[.int .i64 5, .int .i64 y] w fun e w' => e = .returned (.tuple #[.int .i64 b, .int .i64 0]) ∧ w' = w)
    (vxl : ∀ w, Calls Try.prog 15 #[.int .i64 x, .int .i64 l] w fun e w' => e = .returned (.bool true) ∧ w' = w)
    (vyl : ∀ w, Calls Try.prog 15 #[.int .i64 y, .int .i64 l] w fun e w' => e = .returned (.bool true) ∧ w' = w)
    (cm : ∀ w, Calls Try.prog 17 #[.int .i64 a, .int .i64 b] w fun e w' => e = .returned (.tuple #[.int .i64 l, .bool true]) ∧ w' = w)
    (w : World) : Calls Try.prog 6 #[.int .i64 x, .int .i64 y, .int .i64 d] w fun e w' => e = .returned (.bool true) ∧ ∃ n, w' = w.drewN n := by
  have dd : (d != 0) = true := by simp [hd]
  clear hd
  have d1 : (x == 0) = false := by simp [hx]
  have d2 : (y == 0) = false := by simp [hy]
  have d3 : decide (0 < l) = true := by simpa using hl
  have d4 : (l == l) = true := by simp
  have g1 : decide (g < 0) = false := by simp; omega
  have g2 : (g == 0) = false := by simp; omega
  clear hx hy
  go_enter Try.func6, Try.ntmps6
  go_wp2_with (first | (go_at_call 8; refine (begun_any _).mono ?_; rintro e w' ⟨rfl, n, rfl⟩) | (go_at_call 14; (with_reducible refine (cg _).mono ?_); rintro e w' ⟨rfl, n, rfl⟩) | (go_at_call 15; (with_reducible refine (vgx _).mono ?_); rintro e w' ⟨rfl, rfl⟩) | (go_at_call 15; (with_reducible refine (vgy _).mono ?_); rintro e w' ⟨rfl, rfl⟩) | (go_at_call 15; (with_reducible refine (vdx _).mono ?_); rintro e w' ⟨rfl, rfl⟩) | (go_at_call 14; (with_reducible refine (cl _).mono ?_); rintro e w' ⟨rfl, n, rfl⟩) | (go_at_call 16; (with_reducible refine (ca _).mono ?_); rintro e w' ⟨rfl, rfl⟩) | (go_at_call 16; (with_reducible refine (cb _).mono ?_); rintro e w' ⟨rfl, rfl⟩) | (go_at_call 15; (with_reducible refine (vxl _).mono ?_); rintro e w' ⟨rfl, rfl⟩) | (go_at_call 15; (with_reducible refine (vyl _).mono ?_); rintro e w' ⟨rfl, rfl⟩) | (go_at_call 17; (with_reducible refine (cm _).mono ?_); rintro e w' ⟨rfl, rfl⟩))
  go_ret
  exact ⟨rfl, _, rfl⟩
set_option maxRecDepth 20000 in
theorem common_y_zx (x y d g : Int) (hg : 0 < g) (hd : d ≠ 0) (hx : x = 0) (hy : y ≠ 0)
    (cg : ∀ w, Calls Try.prog 14 #[.int .i64 14, .int .i64 x, .int .i64 y] w fun e w' => e = .returned (.tuple #[.int .i64 g, .int .i64 0]) ∧ ∃ n, w' = w.drewN n)
    (vgx : ∀ w, Calls Try.prog 15 #[.int .i64 g, .int .i64 x] w fun e w' => e = .returned (.bool true) ∧ w' = w)
    (vgy : ∀ w, Calls Try.prog 15 #[.int .i64 g, .int .i64 y] w fun e w' => e = .returned (.bool true) ∧ w' = w)
    (vdx : ∀ w, Calls Try.prog 15 #[.int .i64 d, .int .i64 x] w fun e w' => e = .returned (.bool true) ∧ w' = w)
    (vdy : ∀ w, Calls Try.prog 15 #[.int .i64 d, .int .i64 y] w fun e w' => e = .returned (.bool false) ∧ w' = w)
    (cl : ∀ w, Calls Try.prog 14 #[.int .i64 15, .int .i64 x, .int .i64 y] w fun e w' => e = .returned (.tuple #[.int .i64 0, .int .i64 0]) ∧ ∃ n, w' = w.drewN n)
    (w : World) : Calls Try.prog 6 #[.int .i64 x, .int .i64 y, .int .i64 d] w fun e w' => e = .returned (.bool true) ∧ ∃ n, w' = w.drewN n := by
  have dd : (d != 0) = true := by simp [hd]
  clear hd
  have d1 : (x == 0) = true := by simp [hx]
  have d2 : (y == 0) = false := by simp [hy]
  have g1 : decide (g < 0) = false := by simp; omega
  have g2 : (g == 0) = false := by simp; omega
  clear hx hy
  go_enter Try.func6, Try.ntmps6
  go_wp2_with (first | (go_at_call 8; refine (begun_any _).mono ?_; rintro e w' ⟨rfl, n, rfl⟩) | (go_at_call 14; (with_reducible refine (cg _).mono ?_); rintro e w' ⟨rfl, n, rfl⟩) | (go_at_call 15; (with_reducible refine (vgx _).mono ?_); rintro e w' ⟨rfl, rfl⟩) | (go_at_call 15; (with_reducible refine (vgy _).mono ?_); rintro e w' ⟨rfl, rfl⟩) | (go_at_call 15; (with_reducible refine (vdx _).mono ?_); rintro e w' ⟨rfl, rfl⟩) | (go_at_call 15; (with_reducible refine (vdy _).mono ?_); rintro e w' ⟨rfl, rfl⟩) | (go_at_call 14; (with_reducible refine (cl _).mono ?_); rintro e w' ⟨rfl, n, rfl⟩))
  go_ret
  exact ⟨rfl, _, rfl⟩
set_option maxRecDepth 20000 in
theorem common_y_zy (x y d g : Int) (hg : 0 < g) (hd : d ≠ 0) (hx : x ≠ 0) (hy : y = 0)
    (cg : ∀ w, Calls Try.prog 14 #[.int .i64 14, .int .i64 x, .int .i64 y] w fun e w' => e = .returned (.tuple #[.int .i64 g, .int .i64 0]) ∧ ∃ n, w' = w.drewN n)
    (vgx : ∀ w, Calls Try.prog 15 #[.int .i64 g, .int .i64 x] w fun e w' => e = .returned (.bool true) ∧ w' = w)
    (vgy : ∀ w, Calls Try.prog 15 #[.int .i64 g, .int .i64 y] w fun e w' => e = .returned (.bool true) ∧ w' = w)
    (vdx : ∀ w, Calls Try.prog 15 #[.int .i64 d, .int .i64 x] w fun e w' => e = .returned (.bool true) ∧ w' = w)
    (vdy : ∀ w, Calls Try.prog 15 #[.int .i64 d, .int .i64 y] w fun e w' => e = .returned (.bool false) ∧ w' = w)
    (cl : ∀ w, Calls Try.prog 14 #[.int .i64 15, .int .i64 x, .int .i64 y] w fun e w' => e = .returned (.tuple #[.int .i64 0, .int .i64 0]) ∧ ∃ n, w' = w.drewN n)
    (w : World) : Calls Try.prog 6 #[.int .i64 x, .int .i64 y, .int .i64 d] w fun e w' => e = .returned (.bool true) ∧ ∃ n, w' = w.drewN n := by
  have dd : (d != 0) = true := by simp [hd]
  clear hd
  have d1 : (x == 0) = false := by simp [hx]
  have d2 : (y == 0) = true := by simp [hy]
  have g1 : decide (g < 0) = false := by simp; omega
  have g2 : (g == 0) = false := by simp; omega
  clear hx hy
  go_enter Try.func6, Try.ntmps6
  go_wp2_with (first | (go_at_call 8; refine (begun_any _).mono ?_; rintro e w' ⟨rfl, n, rfl⟩) | (go_at_call 14; (with_reducible refine (cg _).mono ?_); rintro e w' ⟨rfl, n, rfl⟩) | (go_at_call 15; (with_reducible refine (vgx _).mono ?_); rintro e w' ⟨rfl, rfl⟩) | (go_at_call 15; (with_reducible refine (vgy _).mono ?_); rintro e w' ⟨rfl, rfl⟩) | (go_at_call 15; (with_reducible refine (vdx _).mono ?_); rintro e w' ⟨rfl, rfl⟩) | (go_at_call 15; (with_reducible refine (vdy _).mono ?_); rintro e w' ⟨rfl, rfl⟩) | (go_at_call 14; (with_reducible refine (cl _).mono ?_); rintro e w' ⟨rfl, n, rfl⟩))
  go_ret
  exact ⟨rfl, _, rfl⟩
set_option maxRecDepth 20000 in
theorem common_y_over (x y d g : Int) (hg : 0 < g) (hd : d ≠ 0) (hx : x ≠ 0) (hy : y ≠ 0)
    (cg : ∀ w, Calls Try.prog 14 #[.int .i64 14, .int .i64 x, .int .i64 y] w fun e w' => e = .returned (.tuple #[.int .i64 g, .int .i64 0]) ∧ ∃ n, w' = w.drewN n)
    (vgx : ∀ w, Calls Try.prog 15 #[.int .i64 g, .int .i64 x] w fun e w' => e = .returned (.bool true) ∧ w' = w)
    (vgy : ∀ w, Calls Try.prog 15 #[.int .i64 g, .int .i64 y] w fun e w' => e = .returned (.bool true) ∧ w' = w)
    (vdx : ∀ w, Calls Try.prog 15 #[.int .i64 d, .int .i64 x] w fun e w' => e = .returned (.bool true) ∧ w' = w)
    (vdy : ∀ w, Calls Try.prog 15 #[.int .i64 d, .int .i64 y] w fun e w' => e = .returned (.bool false) ∧ w' = w)
    (cl : ∀ w, Calls Try.prog 14 #[.int .i64 15, .int .i64 x, .int .i64 y] w fun e w' => e = .returned (.tuple #[.int .i64 0, .int .i64 14]) ∧ ∃ n, w' = w.drewN n)
    (w : World) : Calls Try.prog 6 #[.int .i64 x, .int .i64 y, .int .i64 d] w fun e w' => e = .returned (.bool true) ∧ ∃ n, w' = w.drewN n := by
  have dd : (d != 0) = true := by simp [hd]
  clear hd
  have d1 : (x == 0) = false := by simp [hx]
  have d2 : (y == 0) = false := by simp [hy]
  have g1 : decide (g < 0) = false := by simp; omega
  have g2 : (g == 0) = false := by simp; omega
  clear hx hy
  go_enter Try.func6, Try.ntmps6
  go_wp2_with (first | (go_at_call 8; refine (begun_any _).mono ?_; rintro e w' ⟨rfl, n, rfl⟩) | (go_at_call 14; (with_reducible refine (cg _).mono ?_); rintro e w' ⟨rfl, n, rfl⟩) | (go_at_call 15; (with_reducible refine (vgx _).mono ?_); rintro e w' ⟨rfl, rfl⟩) | (go_at_call 15; (with_reducible refine (vgy _).mono ?_); rintro e w' ⟨rfl, rfl⟩) | (go_at_call 15; (with_reducible refine (vdx _).mono ?_); rintro e w' ⟨rfl, rfl⟩) | (go_at_call 15; (with_reducible refine (vdy _).mono ?_); rintro e w' ⟨rfl, rfl⟩) | (go_at_call 14; (with_reducible refine (cl _).mono ?_); rintro e w' ⟨rfl, n, rfl⟩))
  go_ret
  exact ⟨rfl, _, rfl⟩
set_option maxRecDepth 20000 in
theorem common_y_i (x y d g : Int) (l z a b c J : Int) (k : Bool) (hg : 0 < g) (hd : d ≠ 0) (hx : x ≠ 0) (hy : y ≠ 0) (hl : 0 < l) (hq : wrap64 (x.tdiv g) = z)
    (cg : ∀ w, Calls Try.prog 14 #[.int .i64 14, .int .i64 x, .int .i64 y] w fun e w' => e = .returned (.tuple #[.int .i64 g, .int .i64 0]) ∧ ∃ n, w' = w.drewN n)
    (vgx : ∀ w, Calls Try.prog 15 #[.int .i64 g, .int .i64 x] w fun e w' => e = .returned (.bool true) ∧ w' = w)
    (vgy : ∀ w, Calls Try.prog 15 #[.int .i64 g, .int .i64 y] w fun e w' => e = .returned (.bool true) ∧ w' = w)
    (vdx : ∀ w, Calls Try.prog 15 #[.int .i64 d, .int .i64 x] w fun e w' => e = .returned (.bool true) ∧ w' = w)
    (vdy : ∀ w, Calls Try.prog 15 #[.int .i64 d, .int .i64 y] w fun e w' => e = .returned (.bool false) ∧ w' = w)
    (cl : ∀ w, Calls Try.prog 14 #[.int .i64 15, .int .i64 x, .int .i64 y] w fun e w' => e = .returned (.tuple #[.int .i64 l, .int .i64 0]) ∧ ∃ n, w' = w.drewN n)
    (ca : ∀ w, Calls Try.prog 16 #[.int .i64 5, .int .i64 z] w fun e w' => e = .returned (.tuple #[.int .i64 a, .int .i64 14]) ∧ w' = w)
    (cb : ∀ w, Calls Try.prog 16 #[.int .i64 5, .int .i64 y] w fun e w' => e = .returned (.tuple #[.int .i64 b, .int .i64 J]) ∧ w' = w)
    (vxl : ∀ w, Calls Try.prog 15 #[.int .i64 x, .int .i64 l] w fun e w' => e = .returned (.bool true) ∧ w' = w)
    (vyl : ∀ w, Calls Try.prog 15 #[.int .i64 y, .int .i64 l] w fun e w' => e = .returned (.bool true) ∧ w' = w)
    (cm : ∀ w, Calls Try.prog 17 #[.int .i64 a, .int .i64 b] w fun e w' => e = .returned (.tuple #[.int .i64 c, .bool k]) ∧ w' = w)
    (w : World) : Calls Try.prog 6 #[.int .i64 x, .int .i64 y, .int .i64 d] w fun e w' => e = .returned (.bool true) ∧ ∃ n, w' = w.drewN n := by
  have dd : (d != 0) = true := by simp [hd]
  clear hd
  have d1 : (x == 0) = false := by simp [hx]
  have d2 : (y == 0) = false := by simp [hy]
  have d3 : decide (0 < l) = true := by simpa using hl
  have d4 : (l == l) = true := by simp
  have g1 : decide (g < 0) = false := by simp; omega
  have g2 : (g == 0) = false := by simp; omega
  clear hx hy
  go_enter Try.func6, Try.ntmps6
  go_wp2_with (first | (go_at_call 8; refine (begun_any _).mono ?_; rintro e w' ⟨rfl, n, rfl⟩) | (go_at_call 14; (with_reducible refine (cg _).mono ?_); rintro e w' ⟨rfl, n, rfl⟩) | (go_at_call 15; (with_reducible refine (vgx _).mono ?_); rintro e w' ⟨rfl, rfl⟩) | (go_at_call 15; (with_reducible refine (vgy _).mono ?_); rintro e w' ⟨rfl, rfl⟩) | (go_at_call 15; (with_reducible refine (vdx _).mono ?_); rintro e w' ⟨rfl, rfl⟩) | (go_at_call 15; (with_reducible refine (vdy _).mono ?_); rintro e w' ⟨rfl, rfl⟩) | (go_at_call 14; (with_reducible refine (cl _).mono ?_); rintro e w' ⟨rfl, n, rfl⟩) | (go_at_call 16; (with_reducible refine (ca _).mono ?_); rintro e w' ⟨rfl, rfl⟩) | (go_at_call 16; (with_reducible refine (cb _).mono ?_); rintro e w' ⟨rfl, rfl⟩) | (go_at_call 15; (with_reducible refine (vxl _).mono ?_); rintro e w' ⟨rfl, rfl⟩) | (go_at_call 15; (with_reducible refine (vyl _).mono ?_); rintro e w' ⟨rfl, rfl⟩) | (go_at_call 17; (with_reducible refine (cm _).mono ?_); rintro e w' ⟨rfl, rfl⟩))
  go_ret
  exact ⟨rfl, _, rfl⟩
set_option maxRecDepth 20000 in
theorem common_y_j (x y d g : Int) (l z a b c J : Int) (k : Bool) (hg : 0 < g) (hd : d ≠ 0) (hx : x ≠ 0) (hy : y ≠ 0) (hl : 0 < l) (hq : wrap64 (x.tdiv g) = z)
    (cg : ∀ w, Calls Try.prog 14 #[.int .i64 14, .int .i64 x, .int .i64 y] w fun e w' => e = .returned (.tuple #[.int .i64 g, .int .i64 0]) ∧ ∃ n, w' = w.drewN n)
    (vgx : ∀ w, Calls Try.prog 15 #[.int .i64 g, .int .i64 x] w fun e w' => e = .returned (.bool true) ∧ w' = w)
    (vgy : ∀ w, Calls Try.prog 15 #[.int .i64 g, .int .i64 y] w fun e w' => e = .returned (.bool true) ∧ w' = w)
    (vdx : ∀ w, Calls Try.prog 15 #[.int .i64 d, .int .i64 x] w fun e w' => e = .returned (.bool true) ∧ w' = w)
    (vdy : ∀ w, Calls Try.prog 15 #[.int .i64 d, .int .i64 y] w fun e w' => e = .returned (.bool false) ∧ w' = w)
    (cl : ∀ w, Calls Try.prog 14 #[.int .i64 15, .int .i64 x, .int .i64 y] w fun e w' => e = .returned (.tuple #[.int .i64 l, .int .i64 0]) ∧ ∃ n, w' = w.drewN n)
    (ca : ∀ w, Calls Try.prog 16 #[.int .i64 5, .int .i64 z] w fun e w' => e = .returned (.tuple #[.int .i64 a, .int .i64 0]) ∧ w' = w)
    (cb : ∀ w, Calls Try.prog 16 #[.int .i64 5, .int .i64 y] w fun e w' => e = .returned (.tuple #[.int .i64 b, .int .i64 14]) ∧ w' = w)
    (vxl : ∀ w, Calls Try.prog 15 #[.int .i64 x, .int .i64 l] w fun e w' => e = .returned (.bool true) ∧ w' = w)
    (vyl : ∀ w, Calls Try.prog 15 #[.int .i64 y, .int .i64 l] w fun e w' => e = .returned (.bool true) ∧ w' = w)
    (cm : ∀ w, Calls Try.prog 17 #[.int .i64 a, .int .i64 b] w fun e w' => e = .returned (.tuple #[.int .i64 c, .bool k]) ∧ w' = w)
    (w : World) : Calls Try.prog 6 #[.int .i64 x, .int .i64 y, .int .i64 d] w fun e w' => e = .returned (.bool true) ∧ ∃ n, w' = w.drewN n := by
  have dd : (d != 0) = true := by simp [hd]
  clear hd
  have d1 : (x == 0) = false := by simp [hx]
  have d2 : (y == 0) = false := by simp [hy]
  have d3 : decide (0 < l) = true := by simpa using hl
  have d4 : (l == l) = true := by simp
  have g1 : decide (g < 0) = false := by simp; omega
  have g2 : (g == 0) = false := by simp; omega
  clear hx hy
  go_enter Try.func6, Try.ntmps6
  go_wp2_with (first | (go_at_call 8; refine (begun_any _).mono ?_; rintro e w' ⟨rfl, n, rfl⟩) | (go_at_call 14; (with_reducible refine (cg _).mono ?_); rintro e w' ⟨rfl, n, rfl⟩) | (go_at_call 15; (with_reducible refine (vgx _).mono ?_); rintro e w' ⟨rfl, rfl⟩) | (go_at_call 15; (with_reducible refine (vgy _).mono ?_); rintro e w' ⟨rfl, rfl⟩) | (go_at_call 15; (with_reducible refine (vdx _).mono ?_); rintro e w' ⟨rfl, rfl⟩) | (go_at_call 15; (with_reducible refine (vdy _).mono ?_); rintro e w' ⟨rfl, rfl⟩) | (go_at_call 14; (with_reducible refine (cl _).mono ?_); rintro e w' ⟨rfl, n, rfl⟩) | (go_at_call 16; (with_reducible refine (ca _).mono ?_); rintro e w' ⟨rfl, rfl⟩) | (go_at_call 16; (with_reducible refine (cb _).mono ?_); rintro e w' ⟨rfl, rfl⟩) | (go_at_call 15; (with_reducible refine (vxl _).mono ?_); rintro e w' ⟨rfl, rfl⟩) | (go_at_call 15; (with_reducible refine (vyl _).mono ?_); rintro e w' ⟨rfl, rfl⟩) | (go_at_call 17; (with_reducible refine (cm _).mono ?_); rintro e w' ⟨rfl, rfl⟩))
  go_ret
  exact ⟨rfl, _, rfl⟩
set_option maxRecDepth 20000 in
theorem common_y_ok (x y d g : Int) (l z a b c J : Int) (k : Bool) (hg : 0 < g) (hd : d ≠ 0) (hx : x ≠ 0) (hy : y ≠ 0) (hl : 0 < l) (hq : wrap64 (x.tdiv g) = z)
    (cg : ∀ w, Calls Try.prog 14 #[.int .i64 14, .int .i64 x, .int .i64 y] w fun e w' => e = .returned (.tuple #[.int .i64 g, .int .i64 0]) ∧ ∃ n, w' = w.drewN n)
    (vgx : ∀ w, Calls Try.prog 15 #[.int .i64 g, .int .i64 x] w fun e w' => e = .returned (.bool true) ∧ w' = w)
    (vgy : ∀ w, Calls Try.prog 15 #[.int .i64 g, .int .i64 y] w fun e w' => e = .returned (.bool true) ∧ w' = w)
    (vdx : ∀ w, Calls Try.prog 15 #[.int .i64 d, .int .i64 x] w fun e w' => e = .returned (.bool true) ∧ w' = w)
    (vdy : ∀ w, Calls Try.prog 15 #[.int .i64 d, .int .i64 y] w fun e w' => e = .returned (.bool false) ∧ w' = w)
    (cl : ∀ w, Calls Try.prog 14 #[.int .i64 15, .int .i64 x, .int .i64 y] w fun e w' => e = .returned (.tuple #[.int .i64 l, .int .i64 0]) ∧ ∃ n, w' = w.drewN n)
    (ca : ∀ w, Calls Try.prog 16 #[.int .i64 5, .int .i64 z] w fun e w' => e = .returned (.tuple #[.int .i64 a, .int .i64 0]) ∧ w' = w)
    (cb : ∀ w, Calls Try.prog 16 #[.int .i64 5, .int .i64 y] w fun e w' => e = .returned (.tuple #[.int .i64 b, .int .i64 0]) ∧ w' = w)
    (vxl : ∀ w, Calls Try.prog 15 #[.int .i64 x, .int .i64 l] w fun e w' => e = .returned (.bool true) ∧ w' = w)
    (vyl : ∀ w, Calls Try.prog 15 #[.int .i64 y, .int .i64 l] w fun e w' => e = .returned (.bool true) ∧ w' = w)
    (cm : ∀ w, Calls Try.prog 17 #[.int .i64 a, .int .i64 b] w fun e w' => e = .returned (.tuple #[.int .i64 l, .bool true]) ∧ w' = w)
    (w : World) : Calls Try.prog 6 #[.int .i64 x, .int .i64 y, .int .i64 d] w fun e w' => e = .returned (.bool true) ∧ ∃ n, w' = w.drewN n := by
  have dd : (d != 0) = true := by simp [hd]
  clear hd
  have d1 : (x == 0) = false := by simp [hx]
  have d2 : (y == 0) = false := by simp [hy]
  have d3 : decide (0 < l) = true := by simpa using hl
  have d4 : (l == l) = true := by simp
  have g1 : decide (g < 0) = false := by simp; omega
  have g2 : (g == 0) = false := by simp; omega
  clear hx hy
  go_enter Try.func6, Try.ntmps6
  go_wp2_with (first | (go_at_call 8; refine (begun_any _).mono ?_; rintro e w' ⟨rfl, n, rfl⟩) | (go_at_call 14; (with_reducible refine (cg _).mono ?_); rintro e w' ⟨rfl, n, rfl⟩) | (go_at_call 15; (with_reducible refine (vgx _).mono ?_); rintro e w' ⟨rfl, rfl⟩) | (go_at_call 15; (with_reducible refine (vgy _).mono ?_); rintro e w' ⟨rfl, rfl⟩) | (go_at_call 15; (with_reducible refine (vdx _).mono ?_); rintro e w' ⟨rfl, rfl⟩) | (go_at_call 15; (with_reducible refine (vdy _).mono ?_); rintro e w' ⟨rfl, rfl⟩) | (go_at_call 14; (with_reducible refine (cl _).mono ?_); rintro e w' ⟨rfl, n, rfl⟩) | (go_at_call 16; (with_reducible refine (ca _).mono ?_); rintro e w' ⟨rfl, rfl⟩) | (go_at_call 16; (with_reducible refine (cb _).mono ?_); rintro e w' ⟨rfl, rfl⟩) | (go_at_call 15; (with_reducible refine (vxl _).mono ?_); rintro e w' ⟨rfl, rfl⟩) | (go_at_call 15; (with_reducible refine (vyl _).mono ?_); rintro e w' ⟨rfl, rfl⟩) | (go_at_call 17; (with_reducible refine (cm _).mono ?_); rintro e w' ⟨rfl, rfl⟩))
  go_ret
  exact ⟨rfl, _, rfl⟩
set_option maxRecDepth 20000 in
theorem common_b_zx (x y d g : Int) (hg : 0 < g) (hd : d ≠ 0) (hx : x = 0) (hy : y ≠ 0)
    (cg : ∀ w, Calls Try.prog 14 #[.int .i64 14, .int .i64 x, .int .i64 y] w fun e w' => e = .returned (.tuple #[.int .i64 g, .int .i64 0]) ∧ ∃ n, w' = w.drewN n)
    (vgx : ∀ w, Calls Try.prog 15 #[.int .i64 g, .int .i64 x] w fun e w' => e = .returned (.bool true) ∧ w' = w)
    (vgy : ∀ w, Calls Try.prog 15 #[.int .i64 g, .int .i64 y] w fun e w' => e = .returned (.bool true) ∧ w' = w)
    (vdx : ∀ w, Calls Try.prog 15 #[.int .i64 d, .int .i64 x] w fun e w' => e = .returned (.bool true) ∧ w' = w)
    (vdy : ∀ w, Calls Try.prog 15 #[.int .i64 d, .int .i64 y] w fun e w' => e = .returned (.bool true) ∧ w' = w)
    (vdg : ∀ w, Calls Try.prog 15 #[.int .i64 d, .int .i64 g] w fun e w' => e = .returned (.bool true) ∧ w' = w)
    (cl : ∀ w, Calls Try.prog 14 #[.int .i64 15, .int .i64 x, .int .i64 y] w fun e w' => e = .returned (.tuple #[.int .i64 0, .int .i64 0]) ∧ ∃ n, w' = w.drewN n)
    (w : World) : Calls Try.prog 6 #[.int .i64 x, .int .i64 y, .int .i64 d] w fun e w' => e = .returned (.bool true) ∧ ∃ n, w' = w.drewN n := by
  have dd : (d != 0) = true := by simp [hd]
  clear hd
  have d1 : (x == 0) = true := by simp [hx]
  have d2 : (y == 0) = false := by simp [hy]
  have g1 : decide (g < 0) = false := by simp; omega
  have g2 : (g == 0) = false := by simp; omega
  clear hx hy
  go_enter Try.func6, Try.ntmps6
  go_wp2_with (first | (go_at_call 8; refine (begun_any _).mono ?_; rintro e w' ⟨rfl, n, rfl⟩) | (go_at_call 14; (with_reducible refine (cg _).mono ?_); rintro e w' ⟨rfl, n, rfl⟩) | (go_at_call 15; (with_reducible refine (vgx _).mono ?_); rintro e w' ⟨rfl, rfl⟩) | (go_at_call 15; (with_reducible refine (vgy _).mono ?_); rintro e w' ⟨rfl, rfl⟩) | (go_at_call 15; (with_reducible refine (vdx _).mono ?_); rintro e w' ⟨rfl, rfl⟩) | (go_at_call 15; (with_reducible refine (vdy _).mono ?_); rintro e w' ⟨rfl, rfl⟩) | (go_at_call 15; (with_reducible refine (vdg _).mono ?_); rintro e w' ⟨rfl, rfl⟩) | (go_at_call 14; (with_reducible refine (cl _).mono ?_); rintro e w' ⟨rfl, n, rfl⟩))
  go_ret
  exact ⟨rfl, _, rfl⟩
set_option maxRecDepth 20000 in
theorem common_b_zy (x y d g : Int) (hg : 0 < g) (hd : d ≠ 0) (hx : x ≠ 0) (hy : y = 0)
    (cg : ∀ w, Calls Try.prog 14 #[.int .i64 14, .int .i64 x, .int .i64 y] w fun e w' => e = .returned (.tuple #[.int .i64 g, .int .i64 0]) ∧ ∃ n, w' = w.drewN n)
    (vgx : ∀ w, Calls Try.prog 15 #[.int .i64 g, .int .i64 x] w fun e w' => e = .returned (.bool true) ∧ w' = w)
    (vgy : ∀ w, Calls Try.prog 15 #[.int .i64 g, .int .i64 y] w fun e w' => e = .returned (.bool true) ∧ w' = w)
    (vdx : ∀ w, Calls Try.prog 15 #[.int .i64 d, .int .i64 x] w fun e w' => e = .returned (.bool true) ∧ w' = w)
    (vdy : ∀ w, Calls Try.prog 15 #[.int .i64 d, .int .i64 y] w fun e w' => e = .returned (.bool true) ∧ w' = w)
    (vdg : ∀ w, Calls Try.prog 15 #[.int .i64 d, .int .i64 g] w fun e w' => e = .returned (.bool true) ∧ w' = w)
    (cl : ∀ w, Calls Try.prog 14 #[.int .i64 15, .int .i64 x, .int .i64 y] w fun e w' => e = .returned (.tuple #[.int .i64 0, .int .i64 0]) ∧ ∃ n, w' = w.drewN n)
    (w : World) : Calls Try.prog 6 #[.int .i64 x, .int .i64 y, .int .i64 d] w fun e w' => e = .returned (.bool true) ∧ ∃ n, w' = w.drewN n := by
  have dd : (d != 0) = true := by simp [hd]
  clear hd
  have d1 : (x == 0) = false := by simp [hx]
  have d2 : (y == 0) = true := by simp [hy]
  have g1 : decide (g < 0) = false := by simp; omega
  have g2 : (g == 0) = false := by simp; omega
  clear hx hy
  go_enter Try.func6, Try.ntmps6
  go_wp2_with (first | (go_at_call 8; refine (begun_any _).mono ?_; rintro e w' ⟨rfl, n, rfl⟩) | (go_at_call 14; (with_reducible refine (cg _).mono ?_); rintro e w' ⟨rfl, n, rfl⟩) | (go_at_call 15; (with_reducible refine (vgx _).mono ?_); rintro e w' ⟨rfl, rfl⟩) | (go_at_call 15; (with_reducible refine (vgy _).mono ?_); rintro e w' ⟨rfl, rfl⟩) | (go_at_call 15; (with_reducible refine (vdx _).mono ?_); rintro e w' ⟨rfl, rfl⟩) | (go_at_call 15; (with_reducible refine (vdy _).mono ?_); rintro e w' ⟨rfl, rfl⟩) | (go_at_call 15; (with_reducible refine (vdg _).mono ?_); rintro e w' ⟨rfl, rfl⟩) | (go_at_call 14; (with_reducible refine (cl _).mono ?_); rintro e w' ⟨rfl, n, rfl⟩))
  go_ret
  exact ⟨rfl, _, rfl⟩
set_option maxRecDepth 20000 in
theorem common_b_over (x y d g : Int) (hg : 0 < g) (hd : d ≠ 0) (hx : x ≠ 0) (hy : y ≠ 0)
    (cg : ∀ w, Calls Try.prog 14 #[.int .i64 14, .int .i64 x, .int .i64 y] w fun e w' => e = .returned (.tuple #[.int .i64 g, .int .i64 0]) ∧ ∃ n, w' = w.drewN n)
    (vgx : ∀ w, Calls Try.prog 15 #[.int .i64 g, .int .i64 x] w fun e w' => e = .returned (.bool true) ∧ w' = w)
    (vgy : ∀ w, Calls Try.prog 15 #[.int .i64 g, .int .i64 y] w fun e w' => e = .returned (.bool true) ∧ w' = w)
    (vdx : ∀ w, Calls Try.prog 15 #[.int .i64 d, .int .i64 x] w fun e w' => e = .returned (.bool true) ∧ w' = w)
    (vdy : ∀ w, Calls Try.prog 15 #[.int .i64 d, .int .i64 y] w fun e w' => e = .returned (.bool true) ∧ w' = w)
    (vdg : ∀ w, Calls Try.prog 15 #[.int .i64 d, .int .i64 g] w fun e w' => e = .returned (.bool true) ∧ w' = w)
    (cl : ∀ w, Calls Try.prog 14 #[.int .i64 15, .int .i64 x, .int .i64 y] w fun e w' => e = .returned (.tuple #[.int .i64 0, .int .i64 14]) ∧ ∃ n, w' = w.drewN n)
    (w : World) : Calls Try.prog 6 #[.int .i64 x, .int .i64 y, .int .i64 d] w fun e w' => e = .returned (.bool true) ∧ ∃ n, w' = w.drewN n := by
  have dd : (d != 0) = true := by simp [hd]
  clear hd
  have d1 : (x == 0) = false := by simp [hx]
  have d2 : (y == 0) = false := by simp [hy]
  have g1 : decide (g < 0) = false := by simp; omega
  have g2 : (g == 0) = false := by simp; omega
  clear hx hy
  go_enter Try.func6, Try.ntmps6
  go_wp2_with (first | (go_at_call 8; refine (begun_any _).mono ?_; rintro e w' ⟨rfl, n, rfl⟩) | (go_at_call 14; (with_reducible refine (cg _).mono ?_); rintro e w' ⟨rfl, n, rfl⟩) | (go_at_call 15; (with_reducible refine (vgx _).mono ?_); rintro e w' ⟨rfl, rfl⟩) | (go_at_call 15; (with_reducible refine (vgy _).mono ?_); rintro e w' ⟨rfl, rfl⟩) | (go_at_call 15; (with_reducible refine (vdx _).mono ?_); rintro e w' ⟨rfl, rfl⟩) | (go_at_call 15; (with_reducible refine (vdy _).mono ?_); rintro e w' ⟨rfl, rfl⟩) | (go_at_call 15; (with_reducible refine (vdg _).mono ?_); rintro e w' ⟨rfl, rfl⟩) | (go_at_call 14; (with_reducible refine (cl _).mono ?_); rintro e w' ⟨rfl, n, rfl⟩))
  go_ret
  exact ⟨rfl, _, rfl⟩
set_option maxRecDepth 20000 in
theorem common_b_i (x y d g : Int) (l z a b c J : Int) (k : Bool) (hg : 0 < g) (hd : d ≠ 0) (hx : x ≠ 0) (hy : y ≠ 0) (hl : 0 < l) (hq : wrap64 (x.tdiv g) = z)
    (cg : ∀ w, Calls Try.prog 14 #[.int .i64 14, .int .i64 x, .int .i64 y] w fun e w' => e = .returned (.tuple #[.int .i64 g, .int .i64 0]) ∧ ∃ n, w' = w.drewN n)
    (vgx : ∀ w, Calls Try.prog 15 #[.int .i64 g, .int .i64 x] w fun e w' => e = .returned (.bool true) ∧ w' = w)
    (vgy : ∀ w, Calls Try.prog 15 #[.int .i64 g, .int .i64 y] w fun e w' => e = .returned (.bool true) ∧ w' = w)
    (vdx : ∀ w, Calls Try.prog 15 #[.int .i64 d, .int .i64 x] w fun e w' => e = .returned (.bool true) ∧ w' = w)
    (vdy : ∀ w, Calls Try.prog 15 #[.int .i64 d, .int .i64 y] w fun e w' => e = .returned (.bool true) ∧ w' = w)
    (vdg : ∀ w, Calls Try.prog 15 #[.int .i64 d, .int .i64 g] w fun e w' => e = .returned (.bool true) ∧ w' = w)
    (cl : ∀ w, Calls Try.prog 14 #[.int .i64 15, .int .i64 x, .int .i64 y] w fun e w' => e = .returned (.tuple #[.int .i64 l, .int .i64 0]) ∧ ∃ n, w' = w.drewN n)
    (ca : ∀ w, Calls Try.prog 16 #[.int .i64 5, .int .i64 z] w fun e w' => e = .returned (.tuple #[.int .i64 a, .int .i64 14]) ∧ w' = w)
    (cb : ∀ w, Calls Try.prog 16 #[.int .i64 5, .int .i64 y] w fun e w' => e = .returned (.tuple #[.int .i64 b, .int .i64 J]) ∧ w' = w)
    (vxl : ∀ w, Calls Try.prog 15 #[.int .i64 x, .int .i64 l] w fun e w' => e = .returned (.bool true) ∧ w' = w)
    (vyl : ∀ w, Calls Try.prog 15 #[.int .i64 y, .int .i64 l] w fun e w' => e = .returned (.bool true) ∧ w' = w)
    (cm : ∀ w, Calls Try.prog 17 #[.int .i64 a, .int .i64 b] w fun e w' => e = .returned (.tuple #[.int .i64 c, .bool k]) ∧ w' = w)
    (w : World) : Calls Try.prog 6 #[.int .i64 x, .int .i64 y, .int .i64 d] w fun e w' => e = .returned (.bool true) ∧ ∃ n, w' = w.drewN n := by
  have dd : (d != 0) = true := by simp [hd]
  clear hd
  have d1 : (x == 0) = false := by simp [hx]
  have d2 : (y == 0) = false := by simp [hy]
  have d3 : decide (0 < l) = true := by simpa using hl
  have d4 : (l == l) = true := by simp
  have g1 : decide (g < 0) = false := by simp; omega
  have g2 : (g == 0) = false := by simp; omega
  clear hx hy
  go_enter Try.func6, Try.ntmps6
  go_wp2_with (first | (go_at_call 8; refine (begun_any _).mono ?_; rintro e w' ⟨rfl, n, rfl⟩) | (go_at_call 14; (with_reducible refine (cg _).mono ?_); rintro e w' ⟨rfl, n, rfl⟩) | (go_at_call 15; (with_reducible refine (vgx _).mono ?_); rintro e w' ⟨rfl, rfl⟩) | (go_at_call 15; (with_reducible refine (vgy _).mono ?_); rintro e w' ⟨rfl, rfl⟩) | (go_at_call 15; (with_reducible refine (vdx _).mono ?_); rintro e w' ⟨rfl, rfl⟩) | (go_at_call 15; (with_reducible refine (vdy _).mono ?_); rintro e w' ⟨rfl, rfl⟩) | (go_at_call 15; (with_reducible refine (vdg _).mono ?_); rintro e w' ⟨rfl, rfl⟩) | (go_at_call 14; (with_reducible refine (cl _).mono ?_); rintro e w' ⟨rfl, n, rfl⟩) | (go_at_call 16; (with_reducible refine (ca _).mono ?_); rintro e w' ⟨rfl, rfl⟩) | (go_at_call 16; (with_reducible refine (cb _).mono ?_); rintro e w' ⟨rfl, rfl⟩) | (go_at_call 15; (with_reducible refine (vxl _).mono ?_); rintro e w' ⟨rfl, rfl⟩) | (go_at_call 15; (with_reducible refine (vyl _).mono ?_); rintro e w' ⟨rfl, rfl⟩) | (go_at_call 17; (with_reducible refine (cm _).mono ?_); rintro e w' ⟨rfl, rfl⟩))
  go_ret
  exact ⟨rfl, _, rfl⟩
set_option maxRecDepth 20000 in
theorem common_b_j (x y d g : Int) (l z a b c J : Int) (k : Bool) (hg : 0 < g) (hd : d ≠ 0) (hx : x ≠ 0) (hy : y ≠ 0) (hl : 0 < l) (hq : wrap64 (x.tdiv g) = z)
    (cg : ∀ w, Calls Try.prog 14 #[.int .i64 14, .int .i64 x, .int .i64 y] w fun e w' => e = .returned (.tuple #[.int .i64 g, .int .i64 0]) ∧ ∃ n, w' = w.drewN n)
    (vgx : ∀ w, Calls Try.prog 15 #[.int .i64 g, .int .i64 x] w fun e w' => e = .returned (.bool true) ∧ w' = w)
    (vgy : ∀ w, Calls Try.prog 15 #[.int .i64 g, .int .i64 y] w fun e w' => e = .returned (.bool true) ∧ w' = w)
    (vdx : ∀ w, Calls Try.prog 15 #[.int .i64 d, .int .i64 x] w fun e w' => e = .returned (.bool true) ∧ w' = w)
    (vdy : ∀ w, Calls Try.prog 15 #[.int .i64 d, .int .i64 y] w fun e w' => e = .returned (.bool true) ∧ w' = w)
    (vdg : ∀ w, Calls Try.prog 15 #[.int .i64 d, .int .i64 g] w fun e w' => e = .returned (.bool true) ∧ w' = w)
    (cl : ∀ w, Calls Try.prog 14 #[.int .i64 15, .int .i64 x, .int .i64 y] w fun e w' => e = .returned (.tuple #[.int .i64 l, .int .i64 0]) ∧ ∃ n, w' = w.drewN n)
    (ca : ∀ w, Calls Try.prog 16 #[.int .i64 5, .int .i64 z] w fun e w' => e = .returned (.tuple #[.int .i64 a, .int .i64 0]) ∧ w' = w)
    (cb : ∀ w, Calls Try.prog 16 #[.int .i64 5, .int .i64 y] w fun e w' => e = .returned (.tuple #[.int .i64 b, .int .i64 14]) ∧ w' = w)
    (vxl : ∀ w, Calls Try.prog 15 #[.int .i64 x, .int .i64 l] w fun e w' => e = .returned (.bool true) ∧ w' = w)
    (vyl : ∀ w, Calls Try.prog 15 #[.int .i64 y, .int .i64 l] w fun e w' => e = .returned (.bool true) ∧ w' = w)
    (cm : ∀ w, Calls Try.prog 17 #[.int .i64 a, .int .i64 b] w fun e w' => e = .returned (.tuple #[.int .i64 c, .bool k]) ∧ w' = w)
    (w : World) : Calls Try.prog 6 #[.int .i64 x, .int .i64 y, .int .i64 d] w fun e w' => e = .returned (.bool true) ∧ ∃ n, w' = w.drewN n := by
  have dd : (d != 0) = true := by simp [hd]
  clear hd
  have d1 : (x == 0) = false := by simp [hx]
  have d2 : (y == 0) = false := by simp [hy]
  have d3 : decide (0 < l) = true := by simpa using hl
  have d4 : (l == l) = true := by simp
  have g1 : decide (g < 0) = false := by simp; omega
  have g2 : (g == 0) = false := by simp; omega
  clear hx hy
  go_enter Try.func6, Try.ntmps6
  go_wp2_with (first | (go_at_call 8; refine (begun_any _).mono ?_; rintro e w' ⟨rfl, n, rfl⟩) | (go_at_call 14; (with_reducible refine (cg _).mono ?_); rintro e w' ⟨rfl, n, rfl⟩) | (go_at_call 15; (with_reducible refine (vgx _).mono ?_); rintro e w' ⟨rfl, rfl⟩) | (go_at_call 15; (with_reducible refine (vgy _).mono ?_); rintro e w' ⟨rfl, rfl⟩) | (go_at_call 15; (with_reducible refine (vdx _).mono ?_); rintro e w' ⟨rfl, rfl⟩) | (go_at_call 15; (with_reducible refine (vdy _).mono ?_); rintro e w' ⟨rfl, rfl⟩) | (go_at_call 15; (with_reducible refine (vdg _).mono ?_); rintro e w' ⟨rfl, rfl⟩) | (go_at_call 14; (with_reducible refine (cl _).mono ?_); rintro e w' ⟨rfl, n, rfl⟩) | (go_at_call 16; (with_reducible refine (ca _).mono ?_); rintro e w' ⟨rfl, rfl⟩) | (go_at_call 16; (with_reducible refine (cb _).mono ?_); rintro e w' ⟨rfl, rfl⟩) | (go_at_call 15; (with_reducible refine (vxl _).mono ?_); rintro e w' ⟨rfl, rfl⟩) | (go_at_call 15; (with_reducible refine (vyl _).mono ?_); rintro e w' ⟨rfl, rfl⟩) | (go_at_call 17; (with_reducible refine (cm _).mono ?_); rintro e w' ⟨rfl, rfl⟩))
  go_ret
  exact ⟨rfl, _, rfl⟩
set_option maxRecDepth 20000 in
theorem common_b_ok (x y d g : Int) (l z a b c J : Int) (k : Bool) (hg : 0 < g) (hd : d ≠ 0) (hx : x ≠ 0) (hy : y ≠ 0) (hl : 0 < l) (hq : wrap64 (x.tdiv g) = z)
    (cg : ∀ w, Calls Try.prog 14 #[.int .i64 14, .int .i64 x, .int .i64 y] w fun e w' => e = .returned (.tuple #[.int .i64 g, .int .i64 0]) ∧ ∃ n, w' = w.drewN n)
    (vgx : ∀ w, Calls Try.prog 15 #[.int .i64 g, .int .i64 x] w fun e w' => e = .returned (.bool true) ∧ w' = w)
    (vgy : ∀ w, Calls Try.prog 15 #[.int .i64 g, .int .i64 y] w fun e w' => e = .returned (.bool true) ∧ w' = w)
    (vdx : ∀ w, Calls Try.prog 15 #[.int .i64 d, .int .i64 x] w fun e w' => e = .returned (.bool true) ∧ w' = w)
    (vdy : ∀ w, Calls Try.prog 15 #[.int .i64 d, .int .i64 y] w fun e w' => e = .returned (.bool true) ∧ w' = w)
    (vdg : ∀ w, Calls Try.prog 15 #[.int .i64 d, .int .i64 g] w fun e w' => e = .returned (.bool true) ∧ w' = w)
    (cl : ∀ w, Calls Try.prog 14 #[.int .i64 15, .int .i64 x, .int .i64 y] w fun e w' => e = .returned (.tuple #[.int .i64 l, .int .i64 0]) ∧ ∃ n, w' = w.drewN n)
    (ca : ∀ w, Calls Try.prog 16 #[.int .i64 5, .int .i64 z] w fun e w' => e = .returned (.tuple #[.int .i64 a, .int .i64 0]) ∧ w' = w)
    (cb : ∀ w, Calls Try.prog 16 #[.int .i64 5, .int .i64 y] w fun e w' => e = .returned (.tuple #[.int .i64 b, .int .i64 0]) ∧ w' = w)
    (vxl : ∀ w, Calls Try.prog 15 #[.int .i64 x, .int .i64 l] w fun e w' => e = .returned (.bool true) ∧ w' = w)
    (vyl : ∀ w, Calls Try.prog 15 #[.int .i64 y, .int .i64 l] w fun e w' => e = .returned (.bool true) ∧ w' = w)
    (cm : ∀ w, Calls Try.prog 17 #[.int .i64 a, .int .i64 b] w fun e w' => e = .returned (.tuple #[.int .i64 l, .bool true]) ∧ w' = w)
    (w : World) : Calls Try.prog 6 #[.int .i64 x, .int .i64 y, .int .i64 d] w fun e w' => e = .returned (.bool true) ∧ ∃ n, w' = w.drewN n := by
  have dd : (d != 0) = true := by simp [hd]
  clear hd
  have d1 : (x == 0) = false := by simp [hx]
  have d2 : (y == 0) = false := by simp [hy]
  have d3 : decide (0 < l) = true := by simpa using hl
  have d4 : (l == l) = true := by simp
  have g1 : decide (g < 0) = false := by simp; omega
  have g2 : (g == 0) = false := by simp; omega
  clear hx hy
  go_enter Try.func6, Try.ntmps6
  go_wp2_with (first | (go_at_call 8; refine (begun_any _).mono ?_; rintro e w' ⟨rfl, n, rfl⟩) | (go_at_call 14; (with_reducible refine (cg _).mono ?_); rintro e w' ⟨rfl, n, rfl⟩) | (go_at_call 15; (with_reducible refine (vgx _).mono ?_); rintro e w' ⟨rfl, rfl⟩) | (go_at_call 15; (with_reducible refine (vgy _).mono ?_); rintro e w' ⟨rfl, rfl⟩) | (go_at_call 15; (with_reducible refine (vdx _).mono ?_); rintro e w' ⟨rfl, rfl⟩) | (go_at_call 15; (with_reducible refine (vdy _).mono ?_); rintro e w' ⟨rfl, rfl⟩) | (go_at_call 15; (with_reducible refine (vdg _).mono ?_); rintro e w' ⟨rfl, rfl⟩) | (go_at_call 14; (with_reducible refine (cl _).mono ?_); rintro e w' ⟨rfl, n, rfl⟩) | (go_at_call 16; (with_reducible refine (ca _).mono ?_); rintro e w' ⟨rfl, rfl⟩) | (go_at_call 16; (with_reducible refine (cb _).mono ?_); rintro e w' ⟨rfl, rfl⟩) | (go_at_call 15; (with_reducible refine (vxl _).mono ?_); rintro e w' ⟨rfl, rfl⟩) | (go_at_call 15; (with_reducible refine (vyl _).mono ?_); rintro e w' ⟨rfl, rfl⟩) | (go_at_call 17; (with_reducible refine (cm _).mono ?_); rintro e w' ⟨rfl, rfl⟩))
  go_ret
  exact ⟨rfl, _, rfl⟩
end Go.Proofs.Ytaajliecbchklaa
