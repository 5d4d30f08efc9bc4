
/- Texts of numbers, as lists of bytes: what a number is written as, what is read of it; no memory. -/

import Derived.Lib.ItoaMem

import Derived.Lib.ParseIntBTie

import Derived.Lib.ParseIntBCases

namespace Go.Proofs.YtppcfpiihkaopaaGreatDoor

open Go.Lib

set_option linter.unusedVariables false

/-- A number as text: '_' for the sign. -/
def wrt (n : Int) : List UInt8 := if n < 0 then 95 :: decDigits n.natAbs else decDigits n.toNat
/-- A blank ahead of each number. -/
def sp (ns : List Int) : List UInt8 := ns.flatMap fun n => 32 :: wrt n
/-- A blank between each two. -/
def inL (ns : List Int) : List UInt8 := (sp ns).drop 1
theorem sp_nil : sp [] = [] := rfl
theorem sp_cons (n : Int) (r : List Int) : sp (n :: r) = 32 :: (wrt n ++ sp r) := by simp [sp]
theorem sp_app (a b : List Int) : sp (a ++ b) = sp a ++ sp b := by simp [sp]
theorem inL_cons (n : Int) (r : List Int) : inL (n :: r) = wrt n ++ sp r := by rw [inL, sp_cons]; rfl
theorem inL_snoc (a : List Int) (n : Int) : inL (a ++ [n]) = if a = [] then wrt n else inL a ++ 32 :: wrt n := by
  cases a with
  | nil => simp [inL, sp]
  | cons x a => rw [List.cons_append, inL_cons, sp_app, if_neg (by simp), inL_cons, sp_cons, sp_nil]; simp
theorem blank_inL {a : List Int} (h : a ≠ []) : 32 :: inL a = sp a := by
  cases a with
  | nil => exact absurd rfl h
  | cons x a => rw [inL_cons, sp_cons]

/-! ### digits -/

def isD (b : UInt8) : Bool := decide (48 ≤ b.toNat) && decide (b.toNat ≤ 57)
/-- What digits spell, behind acc. -/
def vl (acc : Nat) : List UInt8 → Nat
  | [] => acc
  | c :: r => vl (acc * 10 + (c.toNat - 48)) r
theorem vl_app (a b : List UInt8) : ∀ acc, vl acc (a ++ b) = vl (vl acc a) b := by
  induction a with
  | nil => intro acc; rfl
  | cons c a ih => intro acc; exact ih _
theorem vl_le (l : List UInt8) : ∀ acc, acc ≤ vl acc l := by
  induction l with
  | nil => intro acc; exact Nat.le_refl _
  | cons c l ih => intro acc; have := ih (acc * 10 + (c.toNat - 48)); show acc ≤ vl _ l; omega
theorem dig_nat {d : Nat} (h : d < 10) : (UInt8.ofNat (48 + d)).toNat = 48 + d := by rw [UInt8.toNat_ofNat']; omega
theorem dec_digits (u : Nat) : ∀ b ∈ decDigits u, isD b = true := by
  induction u using Nat.strongRecOn with
  | _ u ih =>
    by_cases h : u < 10
    · rw [decDigits, dif_pos h]
      intro b hb
      rw [List.mem_singleton.1 hb]
      simp only [isD, dig_nat h, Bool.and_eq_true, decide_eq_true_eq]; omega
    · rw [decDigits, dif_neg h]
      intro b hb
      rcases List.mem_append.1 hb with hb | hb
      · exact ih (u / 10) (by omega) b hb
      · rw [List.mem_singleton.1 hb]
        simp only [isD, dig_nat (Nat.mod_lt u (by decide : 10 > 0)), Bool.and_eq_true, decide_eq_true_eq]; omega
theorem dec_ne (u : Nat) : decDigits u ≠ [] := by
  rw [decDigits]; split <;> simp
theorem vl_dec (u : Nat) : vl 0 (decDigits u) = u := by
  induction u using Nat.strongRecOn with
  | _ u ih =>
    by_cases h : u < 10
    · rw [decDigits, dif_pos h]
      show 0 * 10 + ((UInt8.ofNat (48 + u)).toNat - 48) = u
      rw [dig_nat h]; omega
    · rw [decDigits, dif_neg h, vl_app, ih (u / 10) (by omega)]
      show u / 10 * 10 + ((UInt8.ofNat (48 + u % 10)).toNat - 48) = u
      rw [dig_nat (Nat.mod_lt u (by decide : 10 > 0))]; omega
/-- The first digit is no 0, but of 0. -/
theorem dec_head (u : Nat) (h : 0 < u) : ∃ c r, decDigits u = c :: r ∧ 49 ≤ c.toNat ∧ c.toNat ≤ 57 := by
  induction u using Nat.strongRecOn with
  | _ u ih =>
    by_cases h1 : u < 10
    · exact ⟨_, [], by rw [decDigits, dif_pos h1], by rw [dig_nat h1]; omega, by rw [dig_nat h1]; omega⟩
    · obtain ⟨c, r, e, h2, h3⟩ := ih (u / 10) (by omega) (by omega)
      exact ⟨c, r ++ [UInt8.ofNat (48 + u % 10)], by rw [decDigits, dif_neg h1, e]; rfl, h2, h3⟩
theorem dec_zero : decDigits 0 = [48] := by rw [decDigits, dif_pos (by decide)]; rfl
theorem byte_digit {b : UInt8} (h : isD b = true) : UInt8.ofNat (48 + (b.toNat - 48)) = b := by
  simp only [isD, Bool.and_eq_true, decide_eq_true_eq] at h
  rw [show 48 + (b.toNat - 48) = b.toNat by omega, UInt8.ofNat_toNat]
theorem vl_pos : ∀ (l : List UInt8) (acc : Nat), 0 < acc → 0 < vl acc l := fun l acc h => Nat.lt_of_lt_of_le h (vl_le l acc)
/-- Digits, the first no 0, are what is written of what they spell. -/
theorem dec_vl (c : UInt8) (h1 : 49 ≤ c.toNat) (h2 : c.toNat ≤ 57) (r : List UInt8) (hr : ∀ b ∈ r, isD b = true) : decDigits (vl 0 (c :: r)) = c :: r := by
  have key : ∀ n (r : List UInt8), r.length = n → (∀ b ∈ r, isD b = true) → decDigits (vl 0 (c :: r)) = c :: r := by
    intro n
    induction n with
    | zero =>
      intro r hl _
      have : r = [] := List.length_eq_zero_iff.1 hl
      subst this
      show decDigits (0 * 10 + (c.toNat - 48)) = [c]
      rw [decDigits, dif_pos (by omega), show 0 * 10 + (c.toNat - 48) = c.toNat - 48 by omega, byte_digit]
      simp only [isD, Bool.and_eq_true, decide_eq_true_eq]; omega
    | succ n ih =>
      intro r hl hr
      obtain ⟨q, d, rfl⟩ : ∃ q d, r = q ++ [d] := ⟨r.dropLast, r.getLast (by intro e; rw [e] at hl; cases hl), (List.dropLast_concat_getLast _).symm⟩
      have hd := hr d (by simp)
      have e := ih q (by simpa using hl) fun b hb => hr b (by simp [hb])
      rw [show c :: (q ++ [d]) = (c :: q) ++ [d] from rfl, vl_app]
      have hp : 0 < vl 0 (c :: q) := vl_pos q _ (by show 0 < 0 * 10 + (c.toNat - 48); omega)
      show decDigits (vl 0 (c :: q) * 10 + (d.toNat - 48)) = _
      have hd' : d.toNat - 48 < 10 := by simp only [isD, Bool.and_eq_true, decide_eq_true_eq] at hd; omega
      rw [decDigits, dif_neg (by omega), show (vl 0 (c :: q) * 10 + (d.toNat - 48)) / 10 = vl 0 (c :: q) by omega, show (vl 0 (c :: q) * 10 + (d.toNat - 48)) % 10 = d.toNat - 48 by omega, e, byte_digit hd]
  exact key _ r rfl hr

/-! ### what is read -/

theorem mag_ok {M : Nat} (hM : M ≤ 18446744073709551615) (l : List UInt8) : ∀ acc, (∀ b ∈ l, isD b = true) → vl acc l ≤ M → parseUintM M acc l = .ok (vl acc l) := by
  induction l with
  | nil => intro acc _ _; rfl
  | cons c l ih =>
    intro acc hd hv
    have hc := hd c (by simp)
    simp only [isD, Bool.and_eq_true, decide_eq_true_eq] at hc
    have hle := vl_le l (acc * 10 + (c.toNat - 48))
    have hv' : vl (acc * 10 + (c.toNat - 48)) l ≤ M := hv
    rw [parseUintM, if_pos hc, if_neg (by omega), if_neg (by omega)]
    exact ih _ (fun b hb => hd b (by simp [hb])) hv
theorem mag_is {M : Nat} (l : List UInt8) : ∀ acc u, parseUintM M acc l = .ok u → u = vl acc l ∧ ∀ b ∈ l, isD b = true := by
  induction l with
  | nil => intro acc u h; cases h; exact ⟨rfl, by simp⟩
  | cons c l ih =>
    intro acc u h
    rw [parseUintM] at h
    split at h
    · rename_i hc
      split at h
      · cases h
      split at h
      · cases h
      obtain ⟨e, hd⟩ := ih _ _ h
      refine ⟨e, fun b hb => ?_⟩
      rcases List.mem_cons.1 hb with rfl | hb
      · simp only [isD, Bool.and_eq_true, decide_eq_true_eq]; exact hc
      · exact hd b hb
    · cases h
theorem mag_ends {M : Nat} (l : List UInt8) : ∀ acc, (∀ b ∈ l, isD b = true) → (∃ u, parseUintM M acc l = .ok u) ∨ parseUintM M acc l = .range := by
  induction l with
  | nil => intro acc _; exact .inl ⟨_, rfl⟩
  | cons c l ih =>
    intro acc hd
    have hc := hd c (by simp)
    simp only [isD, Bool.and_eq_true, decide_eq_true_eq] at hc
    rw [parseUintM, if_pos hc]
    split
    · exact .inr rfl
    split
    · exact .inr rfl
    exact ih _ (fun b hb => hd b (by simp [hb]))
theorem all_digits {c : UInt8} {r : List UInt8} (h1 : 49 ≤ c.toNat) (h2 : c.toNat ≤ 57) (hd : ∀ b ∈ r, isD b = true) : ∀ b ∈ c :: r, isD b = true := by
  intro b hb
  rcases List.mem_cons.1 hb with rfl | hb
  · simp only [isD, Bool.and_eq_true, decide_eq_true_eq]; omega
  · exact hd b hb
/-- '_' is read as '-'. -/
def fixm : List UInt8 → List UInt8
  | [] => []
  | c :: r => if c = 95 then 45 :: r else c :: r
/-- A word that may be a number. -/
def Can (l : List UInt8) : Prop := l = [48] ∨ (∃ c r, l = c :: r ∧ 49 ≤ c.toNat ∧ c.toNat ≤ 57 ∧ ∀ b ∈ r, isD b = true) ∨ (∃ c r, l = 95 :: c :: r ∧ 49 ≤ c.toNat ∧ c.toNat ≤ 57 ∧ ∀ b ∈ r, isD b = true)
theorem ne95 {c : UInt8} (h : c.toNat ≤ 57) : c ≠ 95 := by rintro rfl; revert h; decide
theorem p63 : (2 : Nat) ^ (64 - 1) = 9223372036854775808 := by decide
theorem p64 : (2 : Nat) ^ 64 - 1 = 18446744073709551615 := by decide
theorem can_wr (n : Int) : Can (wrt n) := by
  unfold wrt
  by_cases h : n < 0
  · rw [if_pos h]
    obtain ⟨c, r, e, h1, h2⟩ := dec_head n.natAbs (by omega)
    rw [e]
    exact .inr (.inr ⟨c, r, rfl, h1, h2, fun b hb => dec_digits n.natAbs b (by rw [e]; simp [hb])⟩)
  · rw [if_neg h]
    by_cases h0 : n = 0
    · subst h0; exact .inl dec_zero
    · obtain ⟨c, r, e, h1, h2⟩ := dec_head n.toNat (by omega)
      rw [e]
      exact .inr (.inl ⟨c, r, rfl, h1, h2, fun b hb => dec_digits n.toNat b (by rw [e]; simp [hb])⟩)
/-- What is written is read back. -/
theorem read_wr (n : Int) (h0 : -9223372036854775808 ≤ n) (h1 : n ≤ 9223372036854775807) : parseIntB 64 (fixm (wrt n)) = .ok n := by
  unfold wrt
  by_cases h : n < 0
  · rw [if_pos h]
    show parseIntB 64 (45 :: decDigits n.natAbs) = _
    rw [parseIntB_minus, parseUintB, if_neg (dec_ne _), p64, mag_ok (Nat.le_refl _) _ 0 (dec_digits _) (by rw [vl_dec]; omega), vl_dec, p63]
    show (if 9223372036854775808 < n.natAbs then NumEnd.range else .ok (-(n.natAbs : Int))) = _
    rw [if_neg (by omega)]
    congr 1; omega
  · rw [if_neg h]
    have hc : ∃ c r, decDigits n.toNat = c :: r ∧ c.toNat ≤ 57 ∧ 48 ≤ c.toNat := by
      cases e : decDigits n.toNat with
      | nil => exact absurd e (dec_ne _)
      | cons c r =>
        have := dec_digits n.toNat c (by rw [e]; simp)
        simp only [isD, Bool.and_eq_true, decide_eq_true_eq] at this
        exact ⟨c, r, rfl, this.2, this.1⟩
    obtain ⟨c, r, e, c1, c2⟩ := hc
    have ef : fixm (decDigits n.toNat) = decDigits n.toNat := by rw [e]; show (if c = 95 then _ else _) = _; rw [if_neg (ne95 c1)]
    have em : parseUintB 64 (decDigits n.toNat) = .ok n.toNat := by
      rw [parseUintB, if_neg (dec_ne _), p64, mag_ok (Nat.le_refl _) _ 0 (dec_digits _) (by rw [vl_dec]; omega), vl_dec]
    rw [ef, e, parseIntB_plain 64 c r (by omega) (by omega), ← e, em, p63]
    show (if 9223372036854775808 ≤ n.toNat then NumEnd.range else .ok (n.toNat : Int)) = _
    rw [if_neg (by omega)]
    congr 1; omega
/-- What may be a number and is read is what is written of it. -/
theorem wr_read {l : List UInt8} (hc : Can l) {n : Int} (h : parseIntB 64 (fixm l) = .ok n) : wrt n = l := by
  rcases hc with rfl | ⟨c, r, rfl, h1, h2, hd⟩ | ⟨c, r, rfl, h1, h2, hd⟩
  · have : n = 0 := by
      have e : parseIntB 64 (fixm [48]) = .ok 0 := by decide
      rw [e] at h; cases h; rfl
    subst this
    exact dec_zero
  · have ef : fixm (c :: r) = c :: r := by show (if c = 95 then _ else _) = _; rw [if_neg (ne95 h2)]
    rw [ef, parseIntB_plain 64 c r (by omega) (by omega), parseUintB, if_neg (by simp), p64, p63] at h
    rcases mag_ends (M := 18446744073709551615) (c :: r) 0 (all_digits h1 h2 hd) with ⟨u, hm⟩ | hm
    rotate_left
    · rw [hm] at h; cases h
    · rw [hm] at h
      obtain ⟨rfl, _⟩ := mag_is _ _ _ hm
      have h' : (if 9223372036854775808 ≤ vl 0 (c :: r) then NumEnd.range else .ok ((vl 0 (c :: r) : Nat) : Int)) = .ok n := h
      split at h'
      · cases h'
      · cases h'
        unfold wrt
        rw [if_neg (by omega), Int.toNat_natCast]
        exact dec_vl c h1 h2 r hd
  · have ef : fixm (95 :: c :: r) = 45 :: c :: r := rfl
    rw [ef, parseIntB_minus, parseUintB, if_neg (by simp), p64, p63] at h
    rcases mag_ends (M := 18446744073709551615) (c :: r) 0 (all_digits h1 h2 hd) with ⟨u, hm⟩ | hm
    rotate_left
    · rw [hm] at h; cases h
    · rw [hm] at h
      obtain ⟨rfl, _⟩ := mag_is _ _ _ hm
      have h' : (if 9223372036854775808 < vl 0 (c :: r) then NumEnd.range else .ok (-((vl 0 (c :: r) : Nat) : Int))) = .ok n := h
      split at h'
      · cases h'
      · cases h'
        have hp : 0 < vl 0 (c :: r) := vl_pos r _ (by show 0 < 0 * 10 + (c.toNat - 48); omega)
        unfold wrt
        rw [if_pos (by omega), show (-((vl 0 (c :: r) : Nat) : Int)).natAbs = vl 0 (c :: r) by omega]
        rw [dec_vl c h1 h2 r hd]
/-- A word that may be a number is read, or is out of range. -/
theorem read_can {l : List UInt8} (hc : Can l) : (∃ n, parseIntB 64 (fixm l) = .ok n) ∨ parseIntB 64 (fixm l) = .range := by
  rcases hc with rfl | ⟨c, r, rfl, h1, h2, hd⟩ | ⟨c, r, rfl, h1, h2, hd⟩
  · exact .inl ⟨0, by decide⟩
  · have ef : fixm (c :: r) = c :: r := by show (if c = 95 then _ else _) = _; rw [if_neg (ne95 h2)]
    rw [ef, parseIntB_plain 64 c r (by omega) (by omega), parseUintB, if_neg (by simp), p64, p63]
    rcases mag_ends (M := 18446744073709551615) (c :: r) 0 (all_digits h1 h2 hd) with ⟨u, hm⟩ | hm
    rotate_left
    · rw [hm]; exact .inr rfl
    · rw [hm]
      show (∃ n, (if 9223372036854775808 ≤ u then NumEnd.range else .ok (u : Int)) = .ok n) ∨ (if 9223372036854775808 ≤ u then NumEnd.range else .ok (u : Int)) = .range
      split
      · exact .inr rfl
      · exact .inl ⟨_, rfl⟩
  · have ef : fixm (95 :: c :: r) = 45 :: c :: r := rfl
    rw [ef, parseIntB_minus, parseUintB, if_neg (by simp), p64, p63]
    rcases mag_ends (M := 18446744073709551615) (c :: r) 0 (all_digits h1 h2 hd) with ⟨u, hm⟩ | hm
    rotate_left
    · rw [hm]; exact .inr rfl
    · rw [hm]
      show (∃ n, (if 9223372036854775808 < u then NumEnd.range else .ok (-(u : Int))) = .ok n) ∨ (if 9223372036854775808 < u then NumEnd.range else .ok (-(u : Int))) = .range
      split
      · exact .inr rfl
      · exact .inl ⟨_, rfl⟩
end Go.Proofs.YtppcfpiihkaopaaGreatDoor
