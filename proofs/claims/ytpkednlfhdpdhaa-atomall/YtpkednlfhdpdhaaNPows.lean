
/- Contracts of package num's power and repeated. -/

import Derived.Test.YtpkednlfhdpdhaaNSmall

import Derived.Deep.QuietTactic

import Derived.BigQuiet

import Derived.Laws.Bits64b

namespace Go.Proofs.Ytpkednlfhdpdhaa.Nm

open Go.RowKit

set_option linter.unusedVariables false

def powN (x y : Int) : Int := if 0 ≤ y then cut (x ^ y.toNat) else if x = 1 then 1 else if x = -1 then (if y % 2 = 0 then 1 else -1) else 0
def powE (x y : Int) : Int := if 0 ≤ y then ovr (x ^ y.toNat) else if x = 1 ∨ x = -1 then 0 else 10
def chooseN (x y : Int) : Int := if y < 0 ∨ x < 0 ∨ y < x then 0 else cut (binom y.toNat x.toNat)
def chooseE (x y : Int) : Int := if y < 0 then 10 else if x < 0 ∨ y < x then 0 else ovr (binom y.toNat x.toNat)

theorem tr_bd (b : Bool) : 0 ≤ tr b ∧ tr b ≤ 1 := by cases b <;> decide
theorem minus_pow (n : Nat) : (-1 : Int) ^ n = if n % 2 = 0 then 1 else -1 := by
  induction n with
  | zero => rfl
  | succ n ih =>
    rw [Int.pow_succ, ih]
    by_cases h : n % 2 = 0
    · rw [if_pos h, if_neg (by omega)]; rfl
    · rw [if_neg h, if_pos (by omega)]; rfl
theorem one_pow' (n : Nat) : (1 : Int) ^ n = 1 := Int.one_pow
theorem zero_pow' (n : Nat) : (0 : Int) ^ n = tr (n == 0) := by
  cases n with
  | zero => rfl
  | succ n => rw [Int.pow_succ, Int.mul_zero]; rfl
/-- Sizes only grow. -/
theorem pow_size {x : Int} {a b : Nat} (hx : 2 ≤ x.natAbs) (h : a ≤ b) : (x ^ a).natAbs * 2 ^ (b - a) ≤ (x ^ b).natAbs := by
  rw [Int.natAbs_pow, Int.natAbs_pow]
  have e : x.natAbs ^ b = x.natAbs ^ a * x.natAbs ^ (b - a) := by rw [← Nat.pow_add]; congr 1; omega
  rw [e]
  exact Nat.mul_le_mul_left _ (Nat.pow_le_pow_left hx _)
theorem pow_great {x : Int} {n : Nat} (hx : 2 ≤ x.natAbs) (h : 63 < n) : inr (x ^ n) = false := by
  rw [inr_no]
  have h1 := pow_size (a := 0) (b := n) hx (Nat.zero_le _)
  have h2 : 2 ^ 64 ≤ 2 ^ (n - 0) := Nat.pow_le_pow_right (by omega) (by omega)
  have e : (x ^ 0).natAbs = 1 := by rw [Int.pow_zero]; rfl
  rw [e, Nat.one_mul] at h1
  have h3 : (18446744073709551616 : Nat) ≤ (x ^ n).natAbs := Nat.le_trans h2 h1
  omega
theorem pow_over {x : Int} {k n : Nat} (hx : 2 ≤ x.natAbs) (h : inr (x ^ k) = false) (hk : k ≤ n) : inr (x ^ n) = false := by
  rcases Nat.eq_or_lt_of_le hk with e | e
  · rw [← e]; exact h
  · rw [inr_no] at h ⊢
    have h1 := pow_size hx hk
    have h2 : 2 ^ 1 ≤ 2 ^ (n - k) := Nat.pow_le_pow_right (by omega) (by omega)
    have h3 := Nat.mul_le_mul_left (x ^ k).natAbs h2
    omega

theorem powN_one (y : Int) : powN 1 y = 1 := by
  unfold powN
  split
  · rw [one_pow']; rfl
  · rfl
theorem powE_one (y : Int) : powE 1 y = 0 := by
  unfold powE
  split
  · rw [one_pow']; rfl
  · rfl
theorem powN_minus (y : Int) : powN (-1) y = 1 - 2 * tr (y % 2 != 0) := by
  unfold powN
  by_cases h : y % 2 = 0
  · have e : tr (y % 2 != 0) = 0 := by simp [h, tr]
    rw [e]
    split
    · rw [minus_pow, if_pos (by omega)]; rfl
    · simp
  · have e : tr (y % 2 != 0) = 1 := by simp [h, tr]
    rw [e]
    split
    · rw [minus_pow, if_neg (by omega)]; rfl
    · simp
theorem powE_minus (y : Int) : powE (-1) y = 0 := by
  unfold powE
  split
  · rw [minus_pow]; split <;> rfl
  · rfl
theorem powN_zero (y : Int) (h : 0 ≤ y) : powN 0 y = tr (y == 0) := by
  unfold powN
  rw [if_pos h, zero_pow']
  by_cases c : y = 0
  · subst c; rfl
  · have e1 : (y.toNat == 0) = false := by simp; omega
    have e2 : (y == 0) = false := by simp; omega
    rw [e1, e2]; rfl
theorem powE_zero (y : Int) (h : 0 ≤ y) : powE 0 y = 0 := by
  unfold powE
  rw [if_pos h, zero_pow', ovr_yes]
  cases (y.toNat == 0) <;> rfl
end Go.Proofs.Ytpkednlfhdpdhaa.Nm

namespace Go.Proofs.Ytpkednlfhdpdhaa.Nm

open Go.RowKit

set_option linter.unusedVariables false

theorem divisor_any (a b : Nat) (ha : a < 18446744073709551616) (hb : b < 18446744073709551616) (w : World) :
    Calls Try.prog 49 #[.int .u64 (a : Nat), .int .u64 (b : Nat)] w fun e w' => e = .returned (.int .u64 (Nat.gcd a b : Nat)) ∧ ∃ n, w' = w.drewN n := by
  go_enter Try.func49, Try.ntmps49
  go_wp2
  go_loopw [0, 1] (fun x y wr => ∃ A B : Nat, x = .int .u64 (A : Nat) ∧ y = .int .u64 (B : Nat) ∧ A < 18446744073709551616 ∧ B < 18446744073709551616 ∧ Nat.gcd A B = Nat.gcd a b ∧ ∃ n, wr = w.drewN n) (fun _ y _ => (intOf y).toNat)
  case atStart => exact ⟨a, b, rfl, rfl, ha, hb, rfl, 0, rfl⟩
  case round =>
    obtain ⟨A, B, rfl, rfl, hA, hB, hg, n, rfl⟩ := hrel
    by_cases h0 : B = 0
    · subst h0
      rw [Nat.gcd_zero_right] at hg
      go_wp2
      go_ret
      exact ⟨ret_int (by rw [hg]), n, rfl⟩
    · have t : ((B : Int) != 0) = true := by simp; omega
      have hg' : Hid (Nat.gcd B (A % B) = Nat.gcd a b) := by show _ = _; rw [← hg, Nat.gcd_comm A B, Nat.gcd_rec B A, Nat.gcd_comm]
      have hm := Nat.mod_lt A (Nat.pos_of_ne_zero h0)
      clear hg
      go_wp2
      go_quiet (fail)
      go_wp2
      go_roundw
      case rel => exact ⟨B, A % B, rfl, by go_num, hB, by omega, hg'.out, n + nq, by simp⟩
      case measure => simp [intOf]; omega

/-! ### math/bits.Mul64: the product of two words, by its halves -/

theorem wrapNn (a : Nat) (ha : a < 18446744073709551616) : IntKind.u64.wrap (a : Int) = (a : Int) := IntWalk.u64_in _ (by omega)
theorem and_mod (a : Nat) (ha : a < 18446744073709551616) : bits .and .u64 (a : Int) 4294967295 = (a : Int) % 4294967296 := by
  refine (bits_and_u64_nat a 4294967295 ha (by omega)).trans ?_
  rw [show (4294967295 : Nat) = 2 ^ 32 - 1 from rfl, Nat.and_two_pow_sub_one_eq_mod]
  omega
/-- Two numbers of two halves each: the product by the halves' products. -/
theorem by_halves (a b c d k : Nat) : (a * k + b) * (c * k + d) = a * c * (k * k) + a * d * k + b * c * k + b * d := by
  have e1 : a * k * (c * k) = a * c * (k * k) := Nat.mul_mul_mul_comm a k c k
  have e2 : a * k * d = a * d * k := Nat.mul_right_comm a k d
  have e3 : b * (c * k) = b * c * k := (Nat.mul_assoc b c k).symm
  simp only [Nat.add_mul, Nat.mul_add, e1, e2, e3]
  omega
theorem half_le {a b : Nat} (ha : a < 4294967296) (hb : b < 4294967296) : a * b ≤ 18446744065119617025 :=
  Nat.le_trans (Nat.mul_le_mul (show a ≤ 4294967295 by omega) (show b ≤ 4294967295 by omega)) (by decide)

theorem bitsMul64 (x y : Nat) (hx : x < 18446744073709551616) (hy : y < 18446744073709551616) (w : World) :
    Calls Try.prog 62 #[.int .u64 x, .int .u64 y] w fun e w' => e = .returned (.tuple #[.int .u64 ((x * y / 18446744073709551616 : Nat) : Int), .int .u64 ((x * y % 18446744073709551616 : Nat) : Int)]) ∧ w' = w := by
  have mx := and_mod x hx
  have my := and_mod y hy
  obtain ⟨a, ea⟩ : ∃ a, a = x / 4294967296 := ⟨_, rfl⟩
  obtain ⟨b, eb⟩ : ∃ b, b = x % 4294967296 := ⟨_, rfl⟩
  obtain ⟨c, ec⟩ : ∃ c, c = y / 4294967296 := ⟨_, rfl⟩
  obtain ⟨d, ed⟩ : ∃ d, d = y % 4294967296 := ⟨_, rfl⟩
  have h := by_halves a b c d 4294967296
  rw [show a * 4294967296 + b = x by omega, show c * 4294967296 + d = y by omega] at h
  rw [show (x : Int) % 4294967296 = (b : Int) by omega] at mx
  rw [show (y : Int) % 4294967296 = (d : Int) by omega] at my
  have dx : (x : Int) / 4294967296 = (a : Int) := by omega
  have dy : (y : Int) / 4294967296 = (c : Int) := by omega
  have l1 := half_le (a := a) (b := c) (by omega) (by omega)
  have l2 := half_le (a := a) (b := d) (by omega) (by omega)
  have l3 := half_le (a := b) (b := c) (by omega) (by omega)
  have l4 := half_le (a := b) (b := d) (by omega) (by omega)
  have q0 : (x : Int) * (y : Int) = ((x * y : Nat) : Int) := (Int.natCast_mul x y).symm
  have q1 : (a : Int) * (c : Int) = ((a * c : Nat) : Int) := (Int.natCast_mul a c).symm
  have q2 : (a : Int) * (d : Int) = ((a * d : Nat) : Int) := (Int.natCast_mul a d).symm
  have q3 : (b : Int) * (c : Int) = ((b * c : Nat) : Int) := (Int.natCast_mul b c).symm
  have q4 : (b : Int) * (d : Int) = ((b * d : Nat) : Int) := (Int.natCast_mul b d).symm
  generalize x * y = P at h q0 ⊢
  generalize a * c = p1 at h q1 l1
  generalize a * d = p2 at h q2 l2
  generalize b * c = p3 at h q3 l3
  generalize b * d = p4 at h q4 l4
  have HP : Hid (P = p1 * (4294967296 * 4294967296) + p2 * 4294967296 + p3 * 4294967296 + p4) := h
  have mt : bits .and .u64 ((p2 : Int) + (p4 : Int) / 4294967296) 4294967295 = ((p2 : Int) + (p4 : Int) / 4294967296) % 4294967296 := by
    have := and_mod (p2 + p4 / 4294967296) (by omega)
    rw [show ((p2 + p4 / 4294967296 : Nat) : Int) = (p2 : Int) + (p4 : Int) / 4294967296 by omega] at this
    exact this
  have wp : IntKind.u64.wrap (P : Int) = ((P % 18446744073709551616 : Nat) : Int) := by rw [IntKind.wrap_u64]; omega
  clear ea eb ec ed h
  go_enter Try.func62, Try.ntmps62
  go_wp2
  go_ret2
  have h := HP.out
  exact ⟨ret_two (by omega) (by first | rfl | omega), rfl⟩

/-! ### the least common multiple -/

theorem lcm_div {a b : Nat} : a / Nat.gcd a b * b = Nat.lcm a b := by
  rw [Nat.lcm, Nat.div_mul_right_comm (Nat.gcd_dvd_left a b)]
theorem multiple_any (x y : Int) (hx : inr x = true) (hy : inr y = true) (w : World) :
    Calls Try.prog 50 #[.int .i64 x, .int .i64 y] w fun e w' => e = .returned (.tuple #[.int .i64 (cut (Nat.lcm x.natAbs y.natAbs : Nat)), .int .i64 (ovr (Nat.lcm x.natAbs y.natAbs : Nat))]) ∧ ∃ n, w' = w.drewN n := by
  have hx' := hx
  have hy' := hy
  rw [inr_iff] at hx hy
  by_cases c0 : x = 0
  · subst c0
    rw [show Nat.lcm (0 : Int).natAbs y.natAbs = 0 from Nat.lcm_zero_left _]
    go_enter Try.func50, Try.ntmps50
    go_wp2
    go_ret2
    exact ⟨rfl, 0, rfl⟩
  by_cases c1 : y = 0
  · subst c1
    rw [show Nat.lcm x.natAbs (0 : Int).natAbs = 0 from Nat.lcm_zero_right _]
    have b0 : (x == 0) = false := by simp [c0]
    go_enter Try.func50, Try.ntmps50
    go_wp2
    go_ret2
    exact ⟨rfl, 0, rfl⟩
  have b0 : (x == 0) = false := by simp [c0]
  have b1 : (y == 0) = false := by simp [c1]
  have hax : x.natAbs < 18446744073709551616 := by omega
  have hay : y.natAbs < 18446744073709551616 := by omega
  have hg : 0 < Nat.gcd x.natAbs y.natAbs := Nat.gcd_pos_of_pos_left _ (by omega)
  have hd : x.natAbs / Nat.gcd x.natAbs y.natAbs < 18446744073709551616 := Nat.lt_of_le_of_lt (Nat.div_le_self _ _) hax
  have hdl : Hid (IntKind.u64.wrap ((x.natAbs : Int) / (Nat.gcd x.natAbs y.natAbs : Nat)) = ((x.natAbs / Nat.gcd x.natAbs y.natAbs : Nat) : Int)) := by
    show _ = _
    rw [← Int.natCast_ediv, wrapNn _ hd]
  by_cases c2 : Nat.lcm x.natAbs y.natAbs < 18446744073709551616
  · have p1 : x.natAbs / Nat.gcd x.natAbs y.natAbs * y.natAbs / 18446744073709551616 = 0 := by rw [lcm_div]; omega
    have p2 : x.natAbs / Nat.gcd x.natAbs y.natAbs * y.natAbs % 18446744073709551616 = Nat.lcm x.natAbs y.natAbs := by rw [lcm_div]; omega
    have hbm := fun w => bitsMul64 _ _ hd hay w
    rw [p1, p2] at hbm
    clear p1 p2
    go_enter Try.func50, Try.ntmps50
    go_wp2_with (first | (go_at_call 41; refine (size_any _ (by assumption) _).mono ?_; rintro e w' ⟨rfl, rfl⟩) | (go_at_call 49; refine (divisor_any _ _ (by assumption) (by assumption) _).mono ?_; rintro e w' ⟨rfl, n, rfl⟩) | (go_at_call 62; rw [hdl.out]; refine (hbm _).mono ?_; rintro e w' ⟨rfl, rfl⟩) | (go_at_call 40; refine (unsigned_any _ (by assumption) _).mono ?_; rintro e w' ⟨rfl, rfl⟩))
    go_ret2
    exact ⟨rfl, _, rfl⟩
  · have c3 : inr (Nat.lcm x.natAbs y.natAbs : Nat) = false := inr_no.2 (by omega)
    rw [cut_no c3, ovr_no c3]
    have p1 : 0 < x.natAbs / Nat.gcd x.natAbs y.natAbs * y.natAbs / 18446744073709551616 := by rw [lcm_div]; omega
    have p2 : ((x.natAbs / Nat.gcd x.natAbs y.natAbs * y.natAbs / 18446744073709551616 : Nat) : Int) < 18446744073709551616 := by
      have := Nat.mul_lt_mul'' hd hay
      omega
    have hbm := fun w => bitsMul64 _ _ hd hay w
    generalize x.natAbs / Nat.gcd x.natAbs y.natAbs * y.natAbs / 18446744073709551616 = hi at hbm p1 p2
    generalize x.natAbs / Nat.gcd x.natAbs y.natAbs * y.natAbs % 18446744073709551616 = lo at hbm
    have p3 : ((hi : Int) != 0) = true := by simp; omega
    go_enter Try.func50, Try.ntmps50
    go_wp2_with (first | (go_at_call 41; refine (size_any _ (by assumption) _).mono ?_; rintro e w' ⟨rfl, rfl⟩) | (go_at_call 49; refine (divisor_any _ _ (by assumption) (by assumption) _).mono ?_; rintro e w' ⟨rfl, n, rfl⟩) | (go_at_call 62; rw [hdl.out]; refine (hbm _).mono ?_; rintro e w' ⟨rfl, rfl⟩) | (go_at_call 40; refine (unsigned_any _ (by assumption) _).mono ?_; rintro e w' ⟨rfl, rfl⟩))
    go_ret2
    exact ⟨rfl, _, rfl⟩
end Go.Proofs.Ytpkednlfhdpdhaa.Nm

namespace Go.Proofs.Ytpkednlfhdpdhaa.Nm

open Go.RowKit

set_option linter.unusedVariables false

theorem repeated_any (x y : Int) (hx : inr x = true) (h2 : 2 ≤ x.natAbs) (hy0 : 0 ≤ y) (hy : y ≤ 63) (w : World) :
    Calls Try.prog 64 #[.int .i64 x, .int .i64 y] w fun e w' => e = .returned (.tuple #[.int .i64 (cut (x ^ y.toNat)), .int .i64 (ovr (x ^ y.toNat))]) ∧ w' = w := by
  go_enter Try.func64, Try.ntmps64
  go_wp2
  go_loop [6, 10] (fun p i => ∃ k : Nat, k ≤ y.toNat ∧ i = .int .i64 (k : Nat) ∧ p = .int .i64 (x ^ k) ∧ inr (x ^ k) = true) (fun _ i => (64 - intOf i).toNat)
  case atStart => exact ⟨0, by omega, rfl, by rw [Int.pow_zero], by rw [Int.pow_zero]; rfl⟩
  case round =>
    obtain ⟨k, hk, rfl, rfl, hp⟩ := hrel
    by_cases hlt : (k : Int) < y
    · have hm : Hid (x ^ (k + 1) = x ^ k * x) := Int.pow_succ x k
      have hmul := fun w => mul64 (x ^ k) x hp hx w
      cases hi : inr (x ^ k * x)
      · have ho : Hid (inr (x ^ y.toNat) = false) := pow_over h2 (k := k + 1) (by rw [hm.out]; exact hi) (by omega)
        rw [hi, cut_no hi] at hmul
        clear hi
        go_wp2_with (go_at_call 43; refine (hmul _).mono ?_; rintro e w' ⟨rfl, rfl⟩)
        go_ret2
        exact ⟨ret_two (cut_no ho.out).symm (ovr_no ho.out).symm, rfl⟩
      · rw [hi, cut_yes hi] at hmul
        have hi' : Hid (inr (x ^ (k + 1)) = true) := by show _ = _; rw [hm.out]; exact hi
        clear hi
        go_wp2_with (go_at_call 43; refine (hmul _).mono ?_; rintro e w' ⟨rfl, rfl⟩)
        go_round
        case rel => exact ⟨k + 1, by omega, by go_num, by rw [hm.out], hi'.out⟩
        case measure => simp [intOf]; omega
    · have e : k = y.toNat := by omega
      subst e
      go_wp2
      go_ret2
      exact ⟨ret_two (cut_yes hp).symm (ovr_yes hp).symm, rfl⟩

theorem power_any (x y : Int) (hx : inr x = true) (hy : inr y = true) (w : World) :
    Calls Try.prog 53 #[.int .i64 x, .int .i64 y] w fun e w' => e = .returned (.tuple #[.int .i64 (powN x y), .int .i64 (powE x y)]) ∧ w' = w := by
  have hx' := hx
  rw [inr_iff] at hx hy
  by_cases c1 : x = 1
  · subst c1
    rw [powN_one, powE_one]
    go_enter Try.func53, Try.ntmps53
    go_wp2
    go_ret2
    exact ⟨rfl, rfl⟩
  by_cases c2 : x = -1
  · subst c2
    rw [powN_minus, powE_minus]
    have bt := tr_bd (y % 2 != 0)
    go_enter Try.func53, Try.ntmps53
    go_wp2_with (first | (go_at_call 61; refine (odd_any _ _).mono ?_; rintro e w' ⟨rfl, rfl⟩) | (go_at_call 48; refine (truth_any _ _).mono ?_; rintro e w' ⟨rfl, rfl⟩))
    go_ret2
    exact ⟨rfl, rfl⟩
  have b1 : (x == 1) = false := by simp [c1]
  have b2 : (x == -1) = false := by simp [c2]
  by_cases c3 : y < 0
  · have e : powN x y = 0 := by unfold powN; rw [if_neg (by omega), if_neg c1, if_neg c2]
    have e2 : powE x y = 10 := by unfold powE; rw [if_neg (by omega), if_neg (by omega)]
    rw [e, e2]
    go_enter Try.func53, Try.ntmps53
    go_wp2
    go_ret2
    exact ⟨rfl, rfl⟩
  by_cases c4 : x = 0
  · subst c4
    rw [powN_zero y (by omega), powE_zero y (by omega)]
    go_enter Try.func53, Try.ntmps53
    go_wp2_with (go_at_call 48; refine (truth_any _ _).mono ?_; rintro e w' ⟨rfl, rfl⟩)
    go_ret2
    exact ⟨rfl, rfl⟩
  have b4 : (x == 0) = false := by simp [c4]
  have e : powN x y = cut (x ^ y.toNat) := by unfold powN; rw [if_pos (by omega)]
  have e2 : powE x y = ovr (x ^ y.toNat) := by unfold powE; rw [if_pos (by omega)]
  rw [e, e2]
  clear e e2
  by_cases c5 : 63 < y
  · have hg := pow_great (x := x) (n := y.toNat) (by omega) (by omega)
    rw [cut_no hg, ovr_no hg]
    clear hg
    go_enter Try.func53, Try.ntmps53
    go_wp2
    go_ret2
    exact ⟨rfl, rfl⟩
  · have hr := fun w => repeated_any x y hx' (by omega) (by omega) (by omega) w
    go_enter Try.func53, Try.ntmps53
    go_wp2_with (go_at_call 64; refine (hr _).mono ?_; rintro e w' ⟨rfl, rfl⟩)
    go_ret2
    exact ⟨rfl, rfl⟩
end Go.Proofs.Ytpkednlfhdpdhaa.Nm
