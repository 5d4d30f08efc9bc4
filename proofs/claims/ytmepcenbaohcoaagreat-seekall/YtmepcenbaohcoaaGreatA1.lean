
/- Contracts: lists of numbers held against one another, by package slices. -/

import Derived.Test.YtmepcenbaohcoaaGreatRefs

import Derived.Test.YtmepcenbaohcoaaGreatRefs3

namespace Go.Proofs.YtmepcenbaohcoaaGreat

set_option linter.unusedVariables false

/-- Which of two numbers is before the other. -/
def cmpI (x y : Int) : Int := if x < y then -1 else if y < x then 1 else 0
/-- Which of two lists. -/
def cmpL : List Int → List Int → Int
  | [], [] => 0
  | [], _ :: _ => -1
  | _ :: _, [] => 1
  | x :: a, y :: b => if cmpI x y = 0 then cmpL a b else cmpI x y
/-- First by one, then by the other. -/
def lex (x y : Int) : Int := if x = 0 then y else x
/-- Which of two arrays. -/
def cmpA (s a t b : List Int) : Int := lex (cmpI s.length t.length) (lex (cmpL s t) (cmpL a b))

theorem cmpI_self (x : Int) : cmpI x x = 0 := by unfold cmpI; rw [if_neg (by omega), if_neg (by omega)]
theorem cmpI_lt {x y : Int} (h : x < y) : cmpI x y = -1 := if_pos h
theorem cmpI_gt {x y : Int} (h : y < x) : cmpI x y = 1 := by unfold cmpI; rw [if_neg (by omega), if_pos h]
theorem cmpI_bd (x y : Int) : -1 ≤ cmpI x y ∧ cmpI x y ≤ 1 := by unfold cmpI; split; omega; split <;> omega
theorem cmpI_zero {x y : Int} : cmpI x y = 0 ↔ x = y := by
  unfold cmpI; split
  · omega
  · split <;> omega
theorem cmpI_anti (x y : Int) : cmpI y x = - cmpI x y := by
  unfold cmpI
  by_cases h : x < y
  · rw [if_pos h, if_neg (by omega), if_pos h]; rfl
  · by_cases k : y < x
    · rw [if_pos k, if_neg h, if_pos k]
    · rw [if_neg h, if_neg k, if_neg k, if_neg h]; rfl

theorem cmpL_step {a b : List Int} {x : Int} : cmpL (x :: a) (x :: b) = cmpL a b := by simp [cmpL, cmpI_self]
theorem cmpL_self : ∀ a, cmpL a a = 0
  | [] => rfl
  | x :: a => by rw [cmpL_step]; exact cmpL_self a
theorem cmpL_bd : ∀ a b, -1 ≤ cmpL a b ∧ cmpL a b ≤ 1
  | [], [] => by simp [cmpL]
  | [], _ :: _ => by simp [cmpL]
  | _ :: _, [] => by simp [cmpL]
  | x :: a, y :: b => by
    unfold cmpL; split
    · exact cmpL_bd a b
    · exact cmpI_bd x y
theorem cmpL_anti : ∀ a b, cmpL b a = - cmpL a b
  | [], [] => rfl
  | [], _ :: _ => rfl
  | _ :: _, [] => rfl
  | x :: a, y :: b => by
    unfold cmpL
    rw [cmpI_anti x y]
    by_cases h : cmpI x y = 0
    · rw [if_pos h, if_pos (by omega)]; exact cmpL_anti a b
    · rw [if_neg h, if_neg (by omega)]
theorem cmpL_zero : ∀ a b, cmpL a b = 0 ↔ a = b
  | [], [] => by simp [cmpL]
  | [], _ :: _ => by simp [cmpL]
  | _ :: _, [] => by simp [cmpL]
  | x :: a, y :: b => by
    unfold cmpL
    by_cases h : cmpI x y = 0
    · rw [if_pos h, cmpL_zero a b, cmpI_zero.1 h]; simp
    · rw [if_neg h]
      constructor
      · intro e; exact absurd e h
      · intro e; cases e; exact absurd (cmpI_self _) h

/-- What two orders at three places keep. -/
structure T3 (x y z : Int) : Prop where
  le : x ≤ 0 → y ≤ 0 → z ≤ 0 ∧ (z = 0 → x = 0 ∧ y = 0)
  ge : 0 ≤ x → 0 ≤ y → 0 ≤ z ∧ (z = 0 → x = 0 ∧ y = 0)

theorem T3.lex {x y z x' y' z' : Int} (h : T3 x y z) (k : T3 x' y' z') : T3 (lex x x') (lex y y') (lex z z') := by
  unfold Go.Proofs.YtmepcenbaohcoaaGreat.lex
  constructor
  · intro h1 h2
    by_cases ex : x = 0
    · by_cases ey : y = 0
      · have ez : z = 0 := by
          have a := h.le (by omega) (by omega)
          have b := h.ge (by omega) (by omega)
          omega
        rw [if_pos ex] at h1
        rw [if_pos ey] at h2
        rw [if_pos ex, if_pos ey, if_pos ez]
        exact k.le h1 h2
      · rw [if_neg ey] at h2
        have a := h.le (by omega) (by omega)
        have ez : z ≠ 0 := fun e => ey (a.2 e).2
        rw [if_neg ez]
        exact ⟨a.1, fun e => absurd e ez⟩
    · rw [if_neg ex] at h1
      have hy : y ≤ 0 := by
        by_cases ey : y = 0
        · omega
        · rw [if_neg ey] at h2; exact h2
      have a := h.le h1 hy
      have ez : z ≠ 0 := fun e => ex (a.2 e).1
      rw [if_neg ez]
      exact ⟨a.1, fun e => absurd e ez⟩
  · intro h1 h2
    by_cases ex : x = 0
    · by_cases ey : y = 0
      · have ez : z = 0 := by
          have a := h.le (by omega) (by omega)
          have b := h.ge (by omega) (by omega)
          omega
        rw [if_pos ex] at h1
        rw [if_pos ey] at h2
        rw [if_pos ex, if_pos ey, if_pos ez]
        exact k.ge h1 h2
      · rw [if_neg ey] at h2
        have a := h.ge (by omega) (by omega)
        have ez : z ≠ 0 := fun e => ey (a.2 e).2
        rw [if_neg ez]
        exact ⟨a.1, fun e => absurd e ez⟩
    · rw [if_neg ex] at h1
      have hy : 0 ≤ y := by
        by_cases ey : y = 0
        · omega
        · rw [if_neg ey] at h2; exact h2
      have a := h.ge h1 hy
      have ez : z ≠ 0 := fun e => ex (a.2 e).1
      rw [if_neg ez]
      exact ⟨a.1, fun e => absurd e ez⟩

theorem cmpI_T3 (x y z : Int) : T3 (cmpI x y) (cmpI y z) (cmpI x z) := by
  unfold cmpI
  constructor <;> (repeat' split) <;> omega
theorem cmpL_T3 : ∀ a b c, T3 (cmpL a b) (cmpL b c) (cmpL a c)
  | [], [], [] => by simp only [cmpL]; constructor <;> omega
  | [], [], _ :: _ => by simp only [cmpL]; constructor <;> omega
  | [], _ :: _, [] => by simp only [cmpL]; constructor <;> omega
  | _ :: _, [], [] => by simp only [cmpL]; constructor <;> omega
  | _ :: _, [], _ :: _ => by simp only [cmpL]; constructor <;> omega
  | [], y :: b, z :: c => by
    have := cmpL_bd (y :: b) (z :: c)
    generalize cmpL (y :: b) (z :: c) = q at *
    simp only [cmpL]; constructor <;> omega
  | x :: a, y :: b, [] => by
    have := cmpL_bd (x :: a) (y :: b)
    generalize cmpL (x :: a) (y :: b) = q at *
    simp only [cmpL]; constructor <;> omega
  | x :: a, y :: b, z :: c => by
    have := (cmpI_T3 x y z).lex (cmpL_T3 a b c)
    simpa only [cmpL, lex] using this

theorem cmpA_T3 (s a t b u c : List Int) : T3 (cmpA s a t b) (cmpA t b u c) (cmpA s a u c) :=
  (cmpI_T3 _ _ _).lex ((cmpL_T3 _ _ _).lex (cmpL_T3 _ _ _))
theorem lex_anti (x y : Int) : lex (-x) (-y) = - lex x y := by
  unfold lex
  by_cases h : x = 0
  · rw [if_pos h, if_pos (by omega)]
  · rw [if_neg h, if_neg (by omega)]
theorem cmpA_anti (s a t b : List Int) : cmpA t b s a = - cmpA s a t b := by
  unfold cmpA
  rw [cmpI_anti (s.length : Int) t.length, cmpL_anti s t, cmpL_anti a b, lex_anti, lex_anti]
theorem lex_zero {x y : Int} : lex x y = 0 ↔ x = 0 ∧ y = 0 := by
  unfold lex
  by_cases h : x = 0
  · rw [if_pos h]; omega
  · rw [if_neg h]; omega
theorem cmpA_zero (s a t b : List Int) : cmpA s a t b = 0 ↔ s = t ∧ a = b := by
  unfold cmpA
  rw [lex_zero, lex_zero, cmpL_zero, cmpL_zero, cmpI_zero]
  constructor
  · rintro ⟨_, h⟩; exact h
  · rintro ⟨rfl, rfl⟩; exact ⟨rfl, rfl, rfl⟩

theorem cons_nth {a : List Int} {k : Nat} (h : k < a.length) : a.drop k = nth a k :: a.drop (k + 1) := by
  rw [nth_lt h, List.drop_eq_getElem_cons h]
/-- Where they are alike up to a place, what is behind it tells. -/
theorem cmpL_drop {a b : List Int} : ∀ k, k ≤ a.length → k ≤ b.length → (∀ j, j < k → nth a j = nth b j) → cmpL a b = cmpL (a.drop k) (b.drop k)
  | 0, _, _, _ => rfl
  | k + 1, h1, h2, h => by
    rw [cmpL_drop k (by omega) (by omega) (fun j hj => h j (by omega)), cons_nth (a := a) (k := k) (by omega), cons_nth (a := b) (k := k) (by omega), h k (by omega), cmpL_step]
theorem cmpL_part {a b : List Int} {k : Nat} (h1 : k < a.length) (h2 : k < b.length) (h : ∀ j, j < k → nth a j = nth b j) (hn : cmpI (nth a k) (nth b k) ≠ 0) : cmpL a b = cmpI (nth a k) (nth b k) := by
  rw [cmpL_drop k (by omega) (by omega) h, cons_nth h1, cons_nth h2]
  unfold cmpL; rw [if_neg hn]
theorem cmpL_long {a b : List Int} (h1 : b.length < a.length) (h : ∀ j, j < b.length → nth a j = nth b j) : cmpL a b = 1 := by
  rw [cmpL_drop b.length (by omega) (by omega) h, cons_nth h1, List.drop_length]; rfl
theorem cmpL_short {a b : List Int} (h1 : a.length < b.length) (h : ∀ j, j < a.length → nth a j = nth b j) : cmpL a b = -1 := by
  rw [cmpL_drop a.length (by omega) (by omega) h, cons_nth h1, List.drop_length]; rfl
theorem cmpL_same {a b : List Int} (h1 : a.length = b.length) (h : ∀ j, j < a.length → nth a j = nth b j) : cmpL a b = 0 :=
  (cmpL_zero a b).2 (ext_nth h1 h)
end Go.Proofs.YtmepcenbaohcoaaGreat

namespace Go.Proofs.YtmepcenbaohcoaaGreat

open Go.RowKit

set_option linter.unusedVariables false

set_option maxHeartbeats 1000000 in
theorem slicesEqual8_any (ao bo : Option Addr) (n m cap cap' : Nat) (zs ys : List Int) (w : World) (h : Rd w ao n zs) (g : Rd w bo m ys) :
    Calls Tryz.prog 92 #[.slice ao n cap, .slice bo m cap'] w fun e w' => e = .returned (.bool (eqB zs ys)) ∧ ∃ q, w' = w.drewN q := by
  have hroom := h.room
  have groom := g.room
  have HL : Hid (zs.length = n) := h.len
  have GL : Hid (ys.length = m) := g.len
  by_cases hnm : n = m
  · subst hnm
    go_enter Tryz.func92, Tryz.ntmps92
    go_wp2
    go_loopw [13] (fun i wr => ∃ k : Nat, k ≤ n ∧ i = .int .i64 (k : Nat) ∧ (∀ j, j < k → nth zs j = nth ys j) ∧ ∃ q, wr = w.drewN q) (fun i _ => n - (intOf i).toNat)
    case atStart => exact ⟨0, Nat.zero_le _, rfl, fun j hj => by omega, 0, rfl⟩
    case round =>
      obtain ⟨k, hk, rfl, hz, q, rfl⟩ := hrel
      by_cases hlt : k < n
      · obtain ⟨b, off, rfl, hb, hc⟩ := h.cells (by omega)
        obtain ⟨b2, off2, rfl, hb2, hc2⟩ := g.cells (by omega)
        have c1 := hc k hlt
        have c2 := hc2 k hlt
        have HZ : Hid (∀ j, j < k → nth zs j = nth ys j) := hz
        clear hc hc2 hz h g
        by_cases he : nth zs k = nth ys k
        · have HE : Hid (nth zs k = nth ys k) := he
          have hne : (nth zs k != nth ys k) = false := by simpa using he
          clear he
          go_wp2
          go_quiet (fail)
          go_wp2
          go_roundw
          case rel => exact ⟨k + 1, by omega, by go_num, fun j hj => by by_cases e : j = k; (· subst e; exact HE.out); exact HZ.out j (by omega), _, rfl⟩
          case measure => simp [intOf]; omega
        · have hne : (nth zs k != nth ys k) = true := by simpa using he
          have HE : Hid (nth zs k ≠ nth ys k) := he
          clear he
          go_wp2
          go_quiet (fail)
          go_wp2
          go_ret
          exact ⟨ret_bool (eqB_no (k := k) (by have := HL.out; omega) HE.out).symm, q + nq, by simp⟩
      · obtain rfl : k = n := by omega
        have HZ : Hid (∀ j, j < k → nth zs j = nth ys j) := hz
        clear hz h g
        go_wp2
        go_ret
        exact ⟨ret_bool (eqB_yes (by have := HL.out; have := GL.out; omega) (fun j hj => HZ.out j (by have := HL.out; omega))).symm, _, rfl⟩
  · have hnm' : ((n : Int) != (m : Int)) = true := by simp; omega
    go_enter Tryz.func92, Tryz.ntmps92
    go_wp2
    go_ret
    exact ⟨ret_bool (eqB_len (by have := HL.out; have := GL.out; omega)).symm, 0, rfl⟩

theorem isNaN_any (x : Int) (w : World) : Calls Tryz.prog 104 #[.int .i64 x] w fun e w' => e = .returned (.bool false) ∧ w' = w := by
  have h : (x != x) = false := by simp
  go_enter Tryz.func104, Tryz.ntmps104
  go_wp2
  go_ret
  exact ⟨rfl, rfl⟩

theorem cmp_any (x y : Int) (w : World) : Calls Tryz.prog 97 #[.int .i64 x, .int .i64 y] w fun e w' => e = .returned (.int .i64 (cmpI x y)) ∧ w' = w := by
  have hn := fun x w => isNaN_any x w
  by_cases h1 : x < y
  · rw [cmpI_lt h1]
    go_enter Tryz.func97, Tryz.ntmps97
    go_wp2_with (go_at_call 104; refine (hn _ _).mono ?_; rintro e w' ⟨rfl, hw⟩; rw [hw]; clear hw w')
    go_ret
    exact ⟨rfl, rfl⟩
  · by_cases h2 : y < x
    · rw [cmpI_gt h2]
      go_enter Tryz.func97, Tryz.ntmps97
      go_wp2_with (go_at_call 104; refine (hn _ _).mono ?_; rintro e w' ⟨rfl, hw⟩; rw [hw]; clear hw w')
      go_ret
      exact ⟨rfl, rfl⟩
    · have e : cmpI x y = 0 := cmpI_zero.2 (by omega)
      rw [e]
      clear e
      go_enter Tryz.func97, Tryz.ntmps97
      go_wp2_with (go_at_call 104; refine (hn _ _).mono ?_; rintro e w' ⟨rfl, hw⟩; rw [hw]; clear hw w')
      go_ret
      exact ⟨rfl, rfl⟩

set_option maxHeartbeats 2000000 in
theorem cmps_any (ao bo : Option Addr) (n m cap cap' : Nat) (zs ys : List Int) (w : World) (h : Rd w ao n zs) (g : Rd w bo m ys) :
    Calls Tryz.prog 98 #[.slice ao n cap, .slice bo m cap'] w fun e w' => e = .returned (.int .i64 (cmpL zs ys)) ∧ w' = w := by
  have hroom := h.room
  have groom := g.room
  have HL : Hid (zs.length = n) := h.len
  have GL : Hid (ys.length = m) := g.len
  have hcm := fun x y w => cmp_any x y w
  go_enter Tryz.func98, Tryz.ntmps98
  go_wp2
  go_loop [11] (fun i => ∃ k : Nat, k ≤ n ∧ k ≤ m ∧ i = .int .i64 (k : Nat) ∧ Hid (∀ j, j < k → nth zs j = nth ys j)) (fun i => n - (intOf i).toNat)
  case atStart => exact ⟨0, Nat.zero_le _, Nat.zero_le _, rfl, fun j hj => by omega⟩
  case round =>
    obtain ⟨k, hk, hk2, rfl, HZ⟩ := hrel
    by_cases hlt : k < n
    · obtain ⟨b, off, rfl, hb, hc⟩ := h.cells (by omega)
      have c1 := hc k hlt
      by_cases hlt2 : k < m
      · obtain ⟨b2, off2, rfl, hb2, hc2⟩ := g.cells (by omega)
        have c2 := hc2 k hlt2
        clear hc hc2 h g
        by_cases he : cmpI (nth zs k) (nth ys k) = 0
        · have he' : (cmpI (nth zs k) (nth ys k) != 0) = false := by simpa using he
          have HE : Hid (nth zs k = nth ys k) := cmpI_zero.1 he
          clear he
          go_wp2_with (go_at_call 97; refine (hcm _ _ _).mono ?_; rintro e w' ⟨rfl, hw⟩; rw [hw]; clear hw w')
          go_round
          case rel => exact ⟨k + 1, by omega, by omega, by go_num, fun j hj => by by_cases e : j = k; (· subst e; exact HE.out); exact HZ.out j (by omega)⟩
          case measure => simp [intOf]; omega
        · have he' : (cmpI (nth zs k) (nth ys k) != 0) = true := by simpa using he
          have HE : Hid (cmpI (nth zs k) (nth ys k) ≠ 0) := he
          clear he
          go_wp2_with (go_at_call 97; refine (hcm _ _ _).mono ?_; rintro e w' ⟨rfl, hw⟩; rw [hw]; clear hw w')
          go_ret
          exact ⟨ret_int (cmpL_part (k := k) (by have := HL.out; omega) (by have := GL.out; omega) HZ.out HE.out).symm, rfl⟩
      · obtain rfl : k = m := by omega
        clear hc h g
        go_wp2
        go_ret
        exact ⟨ret_int (cmpL_long (by have := HL.out; have := GL.out; omega) (by rw [GL.out]; exact HZ.out)).symm, rfl⟩
    · obtain rfl : k = n := by omega
      by_cases hlt2 : k < m
      · clear h g
        go_wp2
        go_ret
        exact ⟨ret_int (cmpL_short (by have := HL.out; have := GL.out; omega) (by rw [HL.out]; exact HZ.out)).symm, rfl⟩
      · obtain rfl : m = k := by omega
        clear h g
        go_wp2
        go_ret
        exact ⟨ret_int (cmpL_same (by have := HL.out; have := GL.out; omega) (by rw [HL.out]; exact HZ.out)).symm, rfl⟩

theorem isNaN8_any (x : Int) (w : World) : Calls Tryz.prog 109 #[.int .i64 x] w fun e w' => e = .returned (.bool false) ∧ w' = w := by
  have h : (x != x) = false := by simp
  go_enter Tryz.func109, Tryz.ntmps109
  go_wp2
  go_ret
  exact ⟨rfl, rfl⟩

theorem cmp8_any (x y : Int) (w : World) : Calls Tryz.prog 105 #[.int .i64 x, .int .i64 y] w fun e w' => e = .returned (.int .i64 (cmpI x y)) ∧ w' = w := by
  have hn := fun x w => isNaN8_any x w
  by_cases h1 : x < y
  · rw [cmpI_lt h1]
    go_enter Tryz.func105, Tryz.ntmps105
    go_wp2_with (go_at_call 109; refine (hn _ _).mono ?_; rintro e w' ⟨rfl, hw⟩; rw [hw]; clear hw w')
    go_ret
    exact ⟨rfl, rfl⟩
  · by_cases h2 : y < x
    · rw [cmpI_gt h2]
      go_enter Tryz.func105, Tryz.ntmps105
      go_wp2_with (go_at_call 109; refine (hn _ _).mono ?_; rintro e w' ⟨rfl, hw⟩; rw [hw]; clear hw w')
      go_ret
      exact ⟨rfl, rfl⟩
    · have e : cmpI x y = 0 := cmpI_zero.2 (by omega)
      rw [e]
      clear e
      go_enter Tryz.func105, Tryz.ntmps105
      go_wp2_with (go_at_call 109; refine (hn _ _).mono ?_; rintro e w' ⟨rfl, hw⟩; rw [hw]; clear hw w')
      go_ret
      exact ⟨rfl, rfl⟩

set_option maxHeartbeats 2000000 in
theorem cmps8_any (ao bo : Option Addr) (n m cap cap' : Nat) (zs ys : List Int) (w : World) (h : Rd w ao n zs) (g : Rd w bo m ys) :
    Calls Tryz.prog 99 #[.slice ao n cap, .slice bo m cap'] w fun e w' => e = .returned (.int .i64 (cmpL zs ys)) ∧ w' = w := by
  have hroom := h.room
  have groom := g.room
  have HL : Hid (zs.length = n) := h.len
  have GL : Hid (ys.length = m) := g.len
  have hcm := fun x y w => cmp8_any x y w
  go_enter Tryz.func99, Tryz.ntmps99
  go_wp2
  go_loop [11] (fun i => ∃ k : Nat, k ≤ n ∧ k ≤ m ∧ i = .int .i64 (k : Nat) ∧ Hid (∀ j, j < k → nth zs j = nth ys j)) (fun i => n - (intOf i).toNat)
  case atStart => exact ⟨0, Nat.zero_le _, Nat.zero_le _, rfl, fun j hj => by omega⟩
  case round =>
    obtain ⟨k, hk, hk2, rfl, HZ⟩ := hrel
    by_cases hlt : k < n
    · obtain ⟨b, off, rfl, hb, hc⟩ := h.cells (by omega)
      have c1 := hc k hlt
      by_cases hlt2 : k < m
      · obtain ⟨b2, off2, rfl, hb2, hc2⟩ := g.cells (by omega)
        have c2 := hc2 k hlt2
        clear hc hc2 h g
        by_cases he : cmpI (nth zs k) (nth ys k) = 0
        · have he' : (cmpI (nth zs k) (nth ys k) != 0) = false := by simpa using he
          have HE : Hid (nth zs k = nth ys k) := cmpI_zero.1 he
          clear he
          go_wp2_with (go_at_call 105; refine (hcm _ _ _).mono ?_; rintro e w' ⟨rfl, hw⟩; rw [hw]; clear hw w')
          go_round
          case rel => exact ⟨k + 1, by omega, by omega, by go_num, fun j hj => by by_cases e : j = k; (· subst e; exact HE.out); exact HZ.out j (by omega)⟩
          case measure => simp [intOf]; omega
        · have he' : (cmpI (nth zs k) (nth ys k) != 0) = true := by simpa using he
          have HE : Hid (cmpI (nth zs k) (nth ys k) ≠ 0) := he
          clear he
          go_wp2_with (go_at_call 105; refine (hcm _ _ _).mono ?_; rintro e w' ⟨rfl, hw⟩; rw [hw]; clear hw w')
          go_ret
          exact ⟨ret_int (cmpL_part (k := k) (by have := HL.out; omega) (by have := GL.out; omega) HZ.out HE.out).symm, rfl⟩
      · obtain rfl : k = m := by omega
        clear hc h g
        go_wp2
        go_ret
        exact ⟨ret_int (cmpL_long (by have := HL.out; have := GL.out; omega) (by rw [GL.out]; exact HZ.out)).symm, rfl⟩
    · obtain rfl : k = n := by omega
      by_cases hlt2 : k < m
      · clear h g
        go_wp2
        go_ret
        exact ⟨ret_int (cmpL_short (by have := HL.out; have := GL.out; omega) (by rw [HL.out]; exact HZ.out)).symm, rfl⟩
      · obtain rfl : m = k := by omega
        clear h g
        go_wp2
        go_ret
        exact ⟨ret_int (cmpL_same (by have := HL.out; have := GL.out; omega) (by rw [HL.out]; exact HZ.out)).symm, rfl⟩

end Go.Proofs.YtmepcenbaohcoaaGreat
