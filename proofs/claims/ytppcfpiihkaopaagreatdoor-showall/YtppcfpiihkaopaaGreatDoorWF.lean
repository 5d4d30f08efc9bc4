
/- The document's Text in all; numbers by their digits. -/

import Derived.Test.YtppcfpiihkaopaaGreatDoorWE

import Derived.Test.YtppcfpiihkaopaaGreatDoorVK

namespace Go.Proofs.YtppcfpiihkaopaaGreatDoor

open Go.RowKit

set_option linter.unusedVariables false

/-- What Text answers. -/
def txT (S A : List Int) : List UInt8 := if mayA S A = 0 then txt S A else []
theorem rtext_any (so ao : Option Addr) (sn sc an ac : Nat) (S A : List Int) (w : World) (h : Rd w so sn S) (g : Rd w ao an A) (T : Tb w) :
    Calls Tryz.prog 14 #[.agg #[.slice so sn sc, .slice ao an ac]] w fun e w' => e = .returned (.tuple #[.string ⟨(txT S A).toArray⟩, .int .i64 (flE S A)]) ∧ Below w.heap.size w w' := by
  by_cases hm : mayA S A = 0
  · rw [show txT S A = txt S A from if_pos hm, show flE S A = 0 from if_pos hm]
    by_cases hs : sn < 2 ∨ an = 0
    · have e : txt S A = inL A := by
        unfold txt
        by_cases h2 : S.length < 2
        · rw [if_pos h2]
        · rw [if_neg h2]
          have : A = [] := List.length_eq_zero_iff.1 (by have := h.len; have := g.len; omega)
          subst this; rfl
      rw [e]
      exact rtext_line so ao sn sc an ac S A w h g hm hs T
    · obtain ⟨m1, m2⟩ := mayA_zero hm
      have hpos := allPos_of m1 (p := 0) (by omega) (by rw [← m2, g.len]; omega)
      have hz := hpos (sn - 1) (by have := h.len; omega)
      obtain ⟨m, hm'⟩ : ∃ m : Nat, nth S (sn - 1) = (m : Int) := ⟨(nth S (sn - 1)).toNat, by omega⟩
      have e : txt S A = txK S A m an an := by
        unfold txt
        rw [if_neg (by have := h.len; omega), h.len, hm', g.len]
        rfl
      rw [e]
      exact rtext_cols so ao sn sc an ac m S A w h g hm (by omega) (by omega) hm' T
  · rw [show txT S A = [] from if_neg hm, show flE S A = 1 from if_neg hm]
    exact rtext_no so ao sn sc an ac S A w h g hm
end Go.Proofs.YtppcfpiihkaopaaGreatDoor

namespace Go.Proofs.YtppcfpiihkaopaaGreatDoor

open Go.Lib

theorem vl_ge (l : List UInt8) : ∀ acc, acc * 10 ^ l.length ≤ vl acc l := by
  induction l with
  | nil => intro acc; show acc * 1 ≤ acc; omega
  | cons c l ih =>
    intro acc
    have h := ih (acc * 10 + (c.toNat - 48))
    show acc * 10 ^ (l.length + 1) ≤ vl (acc * 10 + (c.toNat - 48)) l
    have : acc * 10 ^ (l.length + 1) ≤ (acc * 10 + (c.toNat - 48)) * 10 ^ l.length := by
      rw [Nat.pow_succ, Nat.mul_comm (10 ^ l.length) 10, ← Nat.mul_assoc]
      exact Nat.mul_le_mul_right _ (Nat.le_add_right _ _)
    omega
theorem vl_lt (l : List UInt8) : ∀ acc, (∀ b ∈ l, isD b = true) → vl acc l < (acc + 1) * 10 ^ l.length := by
  induction l with
  | nil => intro acc _; show acc < (acc + 1) * 1; omega
  | cons c l ih =>
    intro acc hd
    have hc := hd c (by simp)
    simp only [isD, Bool.and_eq_true, decide_eq_true_eq] at hc
    have h := ih (acc * 10 + (c.toNat - 48)) (fun b hb => hd b (by simp [hb]))
    show vl (acc * 10 + (c.toNat - 48)) l < (acc + 1) * 10 ^ (l.length + 1)
    have : (acc * 10 + (c.toNat - 48) + 1) * 10 ^ l.length ≤ (acc + 1) * 10 ^ (l.length + 1) := by
      rw [Nat.pow_succ, Nat.mul_comm (10 ^ l.length) 10, ← Nat.mul_assoc]
      exact Nat.mul_le_mul_right _ (by omega)
    omega
theorem less_vl : ∀ (a b : List UInt8) (p : Nat), a.length = b.length → (∀ x ∈ a, isD x = true) → (∀ x ∈ b, isD x = true) → (Op.bytesLess a b = true ↔ vl p a < vl p b)
  | [], [], p, _, _, _ => ⟨fun h => absurd (show false = true from h) (by decide), fun h => absurd h (Nat.lt_irrefl _)⟩
  | [], _ :: _, p, h, _, _ => by simp at h
  | _ :: _, [], p, h, _, _ => by simp at h
  | x :: a, y :: b, p, h, ha, hb => by
    have hx := ha x (by simp)
    have hy := hb y (by simp)
    have ha' : ∀ u ∈ a, isD u = true := fun u hu => ha u (by simp [hu])
    have hb' : ∀ u ∈ b, isD u = true := fun u hu => hb u (by simp [hu])
    simp only [isD, Bool.and_eq_true, decide_eq_true_eq] at hx hy
    have hl : a.length = b.length := by simpa using h
    have e1 : vl p (x :: a) = vl (p * 10 + (x.toNat - 48)) a := rfl
    have e2 : vl p (y :: b) = vl (p * 10 + (y.toNat - 48)) b := rfl
    rw [Op.bytesLess, e1, e2]
    rcases Nat.lt_trichotomy x.toNat y.toNat with c | c | c
    · have hlt : x < y := UInt8.lt_iff_toNat_lt.2 c
      have h1 := vl_lt a (p * 10 + (x.toNat - 48)) ha'
      have h2 := vl_ge b (p * 10 + (y.toNat - 48))
      have h3 : (p * 10 + (x.toNat - 48) + 1) * 10 ^ a.length ≤ (p * 10 + (y.toNat - 48)) * 10 ^ b.length := by
        rw [hl]; exact Nat.mul_le_mul_right _ (by omega)
      simp [hlt]; omega
    · obtain rfl : x = y := UInt8.toNat_inj.1 c
      have ih := less_vl a b (p * 10 + (x.toNat - 48)) hl ha' hb'
      have hn : ¬ x < x := fun h => absurd (UInt8.lt_iff_toNat_lt.1 h) (by omega)
      simp [hn, ih]
    · have hn : ¬ x < y := fun h => absurd (UInt8.lt_iff_toNat_lt.1 h) (by omega)
      have hne : ¬ x = y := fun e => by subst e; omega
      have h1 := vl_lt b (p * 10 + (y.toNat - 48)) hb'
      have h2 := vl_ge a (p * 10 + (x.toNat - 48))
      have h3 : (p * 10 + (y.toNat - 48) + 1) * 10 ^ b.length ≤ (p * 10 + (x.toNat - 48)) * 10 ^ a.length := by
        rw [hl]; exact Nat.mul_le_mul_right _ (by omega)
      simp [hn, hne]; omega
/-- The digits of the greatest number, and of the least one. -/
def d7 : List UInt8 := [57, 50, 50, 51, 51, 55, 50, 48, 51, 54, 56, 53, 52, 55, 55, 53, 56, 48, 55]
def d8 : List UInt8 := [57, 50, 50, 51, 51, 55, 50, 48, 51, 54, 56, 53, 52, 55, 55, 53, 56, 48, 56]
theorem vl_d7 : vl 0 d7 = 9223372036854775807 := by decide +kernel
theorem vl_d8 : vl 0 d8 = 9223372036854775808 := by decide +kernel
theorem is_d7 : ∀ b ∈ d7, isD b = true := by decide +kernel
theorem is_d8 : ∀ b ∈ d8, isD b = true := by decide +kernel
/-- Is a number of these digits beyond? -/
theorem big_iff (ds M : List UInt8) (hM : M.length = 19) (hMd : ∀ b ∈ M, isD b = true) (hv : 10 ^ 18 ≤ vl 0 M) (hd : ∀ b ∈ ds, isD b = true) (h0 : ds = [48] ∨ ∃ c r, ds = c :: r ∧ 49 ≤ c.toNat) :
    (19 < ds.length ∨ ds.length = 19 ∧ Op.bytesLess M ds = true) ↔ vl 0 M < vl 0 ds := by
  have hm := vl_lt M 0 hMd
  rw [hM] at hm
  rcases Nat.lt_trichotomy ds.length 19 with c | c | c
  · have h1 := vl_lt ds 0 hd
    have h2 : 10 ^ ds.length ≤ 10 ^ 18 := Nat.pow_le_pow_right (by omega) (by omega)
    constructor
    · rintro (e | e) <;> omega
    · intro e; omega
  · rw [less_vl M ds 0 (by omega) hMd hd]
    constructor
    · rintro (e | e)
      · omega
      · exact e.2
    · intro e; exact .inr ⟨c, e⟩
  · rcases h0 with rfl | ⟨x, r, rfl, hx⟩
    · simp at c
    · have h1 := vl_ge r (0 * 10 + (x.toNat - 48))
      have h2 : 10 ^ 19 ≤ 10 ^ r.length := Nat.pow_le_pow_right (by omega) (by simp at c; omega)
      have h3 : 1 * 10 ^ r.length ≤ (0 * 10 + (x.toNat - 48)) * 10 ^ r.length := Nat.mul_le_mul_right _ (by omega)
      have h4 : vl 0 (x :: r) = vl (0 * 10 + (x.toNat - 48)) r := rfl
      constructor
      · intro _; omega
      · intro _; exact .inl c
theorem parse_pos (c : UInt8) (r : List UInt8) (hd : ∀ b ∈ c :: r, isD b = true) : parseIntB 64 (fixm (c :: r)) = if vl 0 (c :: r) ≤ 9223372036854775807 then .ok ((vl 0 (c :: r) : Nat) : Int) else .range := by
  have hc := hd c (by simp)
  simp only [isD, Bool.and_eq_true, decide_eq_true_eq] at hc
  have ef : fixm (c :: r) = c :: r := by show (if c = 95 then _ else _) = _; rw [if_neg (ne95 hc.2)]
  rw [ef, parseIntB_plain 64 c r (by omega) (by omega), parseUintB, if_neg (by simp), p64, p63]
  by_cases hv : vl 0 (c :: r) ≤ 9223372036854775807
  · rw [mag_ok (Nat.le_refl _) _ 0 hd (by omega), if_pos hv]
    show (if 9223372036854775808 ≤ vl 0 (c :: r) then NumEnd.range else .ok ((vl 0 (c :: r) : Nat) : Int)) = _
    rw [if_neg (by omega)]
  · rw [if_neg hv]
    rcases mag_ends (M := 18446744073709551615) (c :: r) 0 hd with ⟨u, hm⟩ | hm
    · rw [hm]
      obtain ⟨rfl, _⟩ := mag_is _ _ _ hm
      show (if 9223372036854775808 ≤ vl 0 (c :: r) then NumEnd.range else .ok ((vl 0 (c :: r) : Nat) : Int)) = _
      rw [if_pos (by omega)]
    · rw [hm]; rfl
theorem parse_neg (c : UInt8) (r : List UInt8) (hd : ∀ b ∈ c :: r, isD b = true) : parseIntB 64 (fixm (95 :: c :: r)) = if vl 0 (c :: r) ≤ 9223372036854775808 then .ok (-((vl 0 (c :: r) : Nat) : Int)) else .range := by
  have ef : fixm (95 :: c :: r) = 45 :: c :: r := rfl
  rw [ef, parseIntB_minus, parseUintB, if_neg (by simp), p64, p63]
  by_cases hv : vl 0 (c :: r) ≤ 9223372036854775808
  · rw [mag_ok (Nat.le_refl _) _ 0 hd (by omega), if_pos hv]
    show (if 9223372036854775808 < vl 0 (c :: r) then NumEnd.range else .ok (-((vl 0 (c :: r) : Nat) : Int))) = _
    rw [if_neg (by omega)]
  · rw [if_neg hv]
    rcases mag_ends (M := 18446744073709551615) (c :: r) 0 hd with ⟨u, hm⟩ | hm
    · rw [hm]
      obtain ⟨rfl, _⟩ := mag_is _ _ _ hm
      show (if 9223372036854775808 < vl 0 (c :: r) then NumEnd.range else .ok (-((vl 0 (c :: r) : Nat) : Int))) = _
      rw [if_pos (by omega)]
    · rw [hm]; rfl
end Go.Proofs.YtppcfpiihkaopaaGreatDoor
