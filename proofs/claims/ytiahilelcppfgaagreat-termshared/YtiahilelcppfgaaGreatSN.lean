
/- The document's letters of each kind. -/

import Derived.Test.YtiahilelcppfgaaGreatSK

namespace Go.Proofs.YtiahilelcppfgaaGreat

open Go.RowKit

set_option linter.unusedVariables false

/-- The letters of a kind. -/
def ltK (k : Int) : ByteArray :=
  if k = 1 ∨ k = 2 ∨ k = 20 ∨ k = 21 then ⟨#[]⟩ else
  if k = 3 then ⟨#[118, 110]⟩ else
  if k = 4 then ⟨#[118, 110, 110]⟩ else
  if k = 5 then ⟨#[110, 42]⟩ else
  if k = 10 ∨ k = 11 then ⟨#[110]⟩ else
  if k = 12 then ⟨#[110, 98, 98]⟩ else
  if k = 13 then ⟨#[110, 98]⟩ else
  if k = 14 then ⟨#[115, 43]⟩ else
  if k = 22 then ⟨#[111]⟩ else
  if k = 23 then ⟨#[98]⟩ else
  if k = 24 ∨ k = 25 ∨ k = 26 ∨ k = 27 ∨ k = 42 then ⟨#[118]⟩ else
  if k = 28 ∨ k = 29 ∨ k = 30 ∨ k = 31 ∨ k = 32 ∨ k = 33 ∨ k = 34 ∨ k = 35 ∨ k = 36 ∨ k = 37 ∨ k = 38 ∨ k = 44 ∨ k = 46 then ⟨#[118, 118]⟩ else
  if k = 39 then ⟨#[111, 118]⟩ else
  if k = 40 ∨ k = 41 then ⟨#[118, 111]⟩ else
  if k = 43 then ⟨#[118, 42]⟩ else
  if k = 45 then ⟨#[118, 118, 118]⟩ else
  ⟨#[63]⟩
set_option linter.unusedSimpArgs false in
set_option maxHeartbeats 4000000 in
theorem rkids_yes (k : Int) (w : World) (h : k = 1 ∨ k = 2 ∨ k = 20 ∨ k = 21 ∨ k = 3 ∨ k = 4 ∨ k = 5 ∨ k = 10 ∨ k = 11 ∨ k = 12 ∨ k = 13 ∨ k = 14 ∨ k = 22 ∨ k = 23 ∨ k = 24 ∨ k = 25 ∨ k = 26 ∨ k = 27 ∨ k = 42 ∨ k = 28 ∨ k = 29 ∨ k = 30 ∨ k = 31 ∨ k = 32 ∨ k = 33 ∨ k = 34 ∨ k = 35 ∨ k = 36 ∨ k = 37 ∨ k = 38 ∨ k = 44 ∨ k = 46 ∨ k = 39 ∨ k = 40 ∨ k = 41 ∨ k = 43 ∨ k = 45) : Calls Tryz.prog 71 #[.int .i64 k] w fun e w' => e = .returned (.string (ltK k)) ∧ w' = w := by
  rcases h with rfl | rfl | rfl | rfl | rfl | rfl | rfl | rfl | rfl | rfl | rfl | rfl | rfl | rfl | rfl | rfl | rfl | rfl | rfl | rfl | rfl | rfl | rfl | rfl | rfl | rfl | rfl | rfl | rfl | rfl | rfl | rfl | rfl | rfl | rfl | rfl | rfl
  · rw [show ltK 1 = ⟨#[]⟩ from by simp [ltK]]
    go_enter Tryz.func71, Tryz.ntmps71
    go_wp2
    go_ret
    exact ⟨rfl, rfl⟩
  · rw [show ltK 2 = ⟨#[]⟩ from by simp [ltK]]
    go_enter Tryz.func71, Tryz.ntmps71
    go_wp2
    go_ret
    exact ⟨rfl, rfl⟩
  · rw [show ltK 20 = ⟨#[]⟩ from by simp [ltK]]
    go_enter Tryz.func71, Tryz.ntmps71
    go_wp2
    go_ret
    exact ⟨rfl, rfl⟩
  · rw [show ltK 21 = ⟨#[]⟩ from by simp [ltK]]
    go_enter Tryz.func71, Tryz.ntmps71
    go_wp2
    go_ret
    exact ⟨rfl, rfl⟩
  · rw [show ltK 3 = ⟨#[118, 110]⟩ from by simp [ltK]]
    go_enter Tryz.func71, Tryz.ntmps71
    go_wp2
    go_ret
    exact ⟨rfl, rfl⟩
  · rw [show ltK 4 = ⟨#[118, 110, 110]⟩ from by simp [ltK]]
    go_enter Tryz.func71, Tryz.ntmps71
    go_wp2
    go_ret
    exact ⟨rfl, rfl⟩
  · rw [show ltK 5 = ⟨#[110, 42]⟩ from by simp [ltK]]
    go_enter Tryz.func71, Tryz.ntmps71
    go_wp2
    go_ret
    exact ⟨rfl, rfl⟩
  · rw [show ltK 10 = ⟨#[110]⟩ from by simp [ltK]]
    go_enter Tryz.func71, Tryz.ntmps71
    go_wp2
    go_ret
    exact ⟨rfl, rfl⟩
  · rw [show ltK 11 = ⟨#[110]⟩ from by simp [ltK]]
    go_enter Tryz.func71, Tryz.ntmps71
    go_wp2
    go_ret
    exact ⟨rfl, rfl⟩
  · rw [show ltK 12 = ⟨#[110, 98, 98]⟩ from by simp [ltK]]
    go_enter Tryz.func71, Tryz.ntmps71
    go_wp2
    go_ret
    exact ⟨rfl, rfl⟩
  · rw [show ltK 13 = ⟨#[110, 98]⟩ from by simp [ltK]]
    go_enter Tryz.func71, Tryz.ntmps71
    go_wp2
    go_ret
    exact ⟨rfl, rfl⟩
  · rw [show ltK 14 = ⟨#[115, 43]⟩ from by simp [ltK]]
    go_enter Tryz.func71, Tryz.ntmps71
    go_wp2
    go_ret
    exact ⟨rfl, rfl⟩
  · rw [show ltK 22 = ⟨#[111]⟩ from by simp [ltK]]
    go_enter Tryz.func71, Tryz.ntmps71
    go_wp2
    go_ret
    exact ⟨rfl, rfl⟩
  · rw [show ltK 23 = ⟨#[98]⟩ from by simp [ltK]]
    go_enter Tryz.func71, Tryz.ntmps71
    go_wp2
    go_ret
    exact ⟨rfl, rfl⟩
  · rw [show ltK 24 = ⟨#[118]⟩ from by simp [ltK]]
    go_enter Tryz.func71, Tryz.ntmps71
    go_wp2
    go_ret
    exact ⟨rfl, rfl⟩
  · rw [show ltK 25 = ⟨#[118]⟩ from by simp [ltK]]
    go_enter Tryz.func71, Tryz.ntmps71
    go_wp2
    go_ret
    exact ⟨rfl, rfl⟩
  · rw [show ltK 26 = ⟨#[118]⟩ from by simp [ltK]]
    go_enter Tryz.func71, Tryz.ntmps71
    go_wp2
    go_ret
    exact ⟨rfl, rfl⟩
  · rw [show ltK 27 = ⟨#[118]⟩ from by simp [ltK]]
    go_enter Tryz.func71, Tryz.ntmps71
    go_wp2
    go_ret
    exact ⟨rfl, rfl⟩
  · rw [show ltK 42 = ⟨#[118]⟩ from by simp [ltK]]
    go_enter Tryz.func71, Tryz.ntmps71
    go_wp2
    go_ret
    exact ⟨rfl, rfl⟩
  · rw [show ltK 28 = ⟨#[118, 118]⟩ from by simp [ltK]]
    go_enter Tryz.func71, Tryz.ntmps71
    go_wp2
    go_ret
    exact ⟨rfl, rfl⟩
  · rw [show ltK 29 = ⟨#[118, 118]⟩ from by simp [ltK]]
    go_enter Tryz.func71, Tryz.ntmps71
    go_wp2
    go_ret
    exact ⟨rfl, rfl⟩
  · rw [show ltK 30 = ⟨#[118, 118]⟩ from by simp [ltK]]
    go_enter Tryz.func71, Tryz.ntmps71
    go_wp2
    go_ret
    exact ⟨rfl, rfl⟩
  · rw [show ltK 31 = ⟨#[118, 118]⟩ from by simp [ltK]]
    go_enter Tryz.func71, Tryz.ntmps71
    go_wp2
    go_ret
    exact ⟨rfl, rfl⟩
  · rw [show ltK 32 = ⟨#[118, 118]⟩ from by simp [ltK]]
    go_enter Tryz.func71, Tryz.ntmps71
    go_wp2
    go_ret
    exact ⟨rfl, rfl⟩
  · rw [show ltK 33 = ⟨#[118, 118]⟩ from by simp [ltK]]
    go_enter Tryz.func71, Tryz.ntmps71
    go_wp2
    go_ret
    exact ⟨rfl, rfl⟩
  · rw [show ltK 34 = ⟨#[118, 118]⟩ from by simp [ltK]]
    go_enter Tryz.func71, Tryz.ntmps71
    go_wp2
    go_ret
    exact ⟨rfl, rfl⟩
  · rw [show ltK 35 = ⟨#[118, 118]⟩ from by simp [ltK]]
    go_enter Tryz.func71, Tryz.ntmps71
    go_wp2
    go_ret
    exact ⟨rfl, rfl⟩
  · rw [show ltK 36 = ⟨#[118, 118]⟩ from by simp [ltK]]
    go_enter Tryz.func71, Tryz.ntmps71
    go_wp2
    go_ret
    exact ⟨rfl, rfl⟩
  · rw [show ltK 37 = ⟨#[118, 118]⟩ from by simp [ltK]]
    go_enter Tryz.func71, Tryz.ntmps71
    go_wp2
    go_ret
    exact ⟨rfl, rfl⟩
  · rw [show ltK 38 = ⟨#[118, 118]⟩ from by simp [ltK]]
    go_enter Tryz.func71, Tryz.ntmps71
    go_wp2
    go_ret
    exact ⟨rfl, rfl⟩
  · rw [show ltK 44 = ⟨#[118, 118]⟩ from by simp [ltK]]
    go_enter Tryz.func71, Tryz.ntmps71
    go_wp2
    go_ret
    exact ⟨rfl, rfl⟩
  · rw [show ltK 46 = ⟨#[118, 118]⟩ from by simp [ltK]]
    go_enter Tryz.func71, Tryz.ntmps71
    go_wp2
    go_ret
    exact ⟨rfl, rfl⟩
  · rw [show ltK 39 = ⟨#[111, 118]⟩ from by simp [ltK]]
    go_enter Tryz.func71, Tryz.ntmps71
    go_wp2
    go_ret
    exact ⟨rfl, rfl⟩
  · rw [show ltK 40 = ⟨#[118, 111]⟩ from by simp [ltK]]
    go_enter Tryz.func71, Tryz.ntmps71
    go_wp2
    go_ret
    exact ⟨rfl, rfl⟩
  · rw [show ltK 41 = ⟨#[118, 111]⟩ from by simp [ltK]]
    go_enter Tryz.func71, Tryz.ntmps71
    go_wp2
    go_ret
    exact ⟨rfl, rfl⟩
  · rw [show ltK 43 = ⟨#[118, 42]⟩ from by simp [ltK]]
    go_enter Tryz.func71, Tryz.ntmps71
    go_wp2
    go_ret
    exact ⟨rfl, rfl⟩
  · rw [show ltK 45 = ⟨#[118, 118, 118]⟩ from by simp [ltK]]
    go_enter Tryz.func71, Tryz.ntmps71
    go_wp2
    go_ret
    exact ⟨rfl, rfl⟩
set_option linter.unusedSimpArgs false in
set_option maxHeartbeats 4000000 in
theorem rkids_no (k : Int) (w : World) (h : k ≠ 1 ∧ k ≠ 2 ∧ k ≠ 20 ∧ k ≠ 21 ∧ k ≠ 3 ∧ k ≠ 4 ∧ k ≠ 5 ∧ k ≠ 10 ∧ k ≠ 11 ∧ k ≠ 12 ∧ k ≠ 13 ∧ k ≠ 14 ∧ k ≠ 22 ∧ k ≠ 23 ∧ k ≠ 24 ∧ k ≠ 25 ∧ k ≠ 26 ∧ k ≠ 27 ∧ k ≠ 42 ∧ k ≠ 28 ∧ k ≠ 29 ∧ k ≠ 30 ∧ k ≠ 31 ∧ k ≠ 32 ∧ k ≠ 33 ∧ k ≠ 34 ∧ k ≠ 35 ∧ k ≠ 36 ∧ k ≠ 37 ∧ k ≠ 38 ∧ k ≠ 44 ∧ k ≠ 46 ∧ k ≠ 39 ∧ k ≠ 40 ∧ k ≠ 41 ∧ k ≠ 43 ∧ k ≠ 45) : Calls Tryz.prog 71 #[.int .i64 k] w fun e w' => e = .returned (.string ⟨#[63]⟩) ∧ w' = w := by
  obtain ⟨e1, e2, e20, e21, e3, e4, e5, e10, e11, e12, e13, e14, e22, e23, e24, e25, e26, e27, e42, e28, e29, e30, e31, e32, e33, e34, e35, e36, e37, e38, e44, e46, e39, e40, e41, e43, e45⟩ := h
  have f1 : (k == 1) = false := by simp [e1]
  have f2 : (k == 2) = false := by simp [e2]
  have f20 : (k == 20) = false := by simp [e20]
  have f21 : (k == 21) = false := by simp [e21]
  have f3 : (k == 3) = false := by simp [e3]
  have f4 : (k == 4) = false := by simp [e4]
  have f5 : (k == 5) = false := by simp [e5]
  have f10 : (k == 10) = false := by simp [e10]
  have f11 : (k == 11) = false := by simp [e11]
  have f12 : (k == 12) = false := by simp [e12]
  have f13 : (k == 13) = false := by simp [e13]
  have f14 : (k == 14) = false := by simp [e14]
  have f22 : (k == 22) = false := by simp [e22]
  have f23 : (k == 23) = false := by simp [e23]
  have f24 : (k == 24) = false := by simp [e24]
  have f25 : (k == 25) = false := by simp [e25]
  have f26 : (k == 26) = false := by simp [e26]
  have f27 : (k == 27) = false := by simp [e27]
  have f42 : (k == 42) = false := by simp [e42]
  have f28 : (k == 28) = false := by simp [e28]
  have f29 : (k == 29) = false := by simp [e29]
  have f30 : (k == 30) = false := by simp [e30]
  have f31 : (k == 31) = false := by simp [e31]
  have f32 : (k == 32) = false := by simp [e32]
  have f33 : (k == 33) = false := by simp [e33]
  have f34 : (k == 34) = false := by simp [e34]
  have f35 : (k == 35) = false := by simp [e35]
  have f36 : (k == 36) = false := by simp [e36]
  have f37 : (k == 37) = false := by simp [e37]
  have f38 : (k == 38) = false := by simp [e38]
  have f44 : (k == 44) = false := by simp [e44]
  have f46 : (k == 46) = false := by simp [e46]
  have f39 : (k == 39) = false := by simp [e39]
  have f40 : (k == 40) = false := by simp [e40]
  have f41 : (k == 41) = false := by simp [e41]
  have f43 : (k == 43) = false := by simp [e43]
  have f45 : (k == 45) = false := by simp [e45]
  clear e1 e2 e20 e21 e3 e4 e5 e10 e11 e12 e13 e14 e22 e23 e24 e25 e26 e27 e42 e28 e29 e30 e31 e32 e33 e34 e35 e36 e37 e38 e44 e46 e39 e40 e41 e43 e45
  go_enter Tryz.func71, Tryz.ntmps71
  go_wp2
  go_ret
  exact ⟨rfl, rfl⟩
theorem kinds_all (k : Int) : (k = 1 ∨ k = 2 ∨ k = 20 ∨ k = 21 ∨ k = 3 ∨ k = 4 ∨ k = 5 ∨ k = 10 ∨ k = 11 ∨ k = 12 ∨ k = 13 ∨ k = 14 ∨ k = 22 ∨ k = 23 ∨ k = 24 ∨ k = 25 ∨ k = 26 ∨ k = 27 ∨ k = 42 ∨ k = 28 ∨ k = 29 ∨ k = 30 ∨ k = 31 ∨ k = 32 ∨ k = 33 ∨ k = 34 ∨ k = 35 ∨ k = 36 ∨ k = 37 ∨ k = 38 ∨ k = 44 ∨ k = 46 ∨ k = 39 ∨ k = 40 ∨ k = 41 ∨ k = 43 ∨ k = 45) ∨ (k ≠ 1 ∧ k ≠ 2 ∧ k ≠ 20 ∧ k ≠ 21 ∧ k ≠ 3 ∧ k ≠ 4 ∧ k ≠ 5 ∧ k ≠ 10 ∧ k ≠ 11 ∧ k ≠ 12 ∧ k ≠ 13 ∧ k ≠ 14 ∧ k ≠ 22 ∧ k ≠ 23 ∧ k ≠ 24 ∧ k ≠ 25 ∧ k ≠ 26 ∧ k ≠ 27 ∧ k ≠ 42 ∧ k ≠ 28 ∧ k ≠ 29 ∧ k ≠ 30 ∧ k ≠ 31 ∧ k ≠ 32 ∧ k ≠ 33 ∧ k ≠ 34 ∧ k ≠ 35 ∧ k ≠ 36 ∧ k ≠ 37 ∧ k ≠ 38 ∧ k ≠ 44 ∧ k ≠ 46 ∧ k ≠ 39 ∧ k ≠ 40 ∧ k ≠ 41 ∧ k ≠ 43 ∧ k ≠ 45) := by omega
/-- There is no such kind. -/
theorem kid_no (k n : Int) (m : Nat) (g : Nat → Int × ByteArray) (h : k ≠ 1 ∧ k ≠ 2 ∧ k ≠ 20 ∧ k ≠ 21 ∧ k ≠ 3 ∧ k ≠ 4 ∧ k ≠ 5 ∧ k ≠ 10 ∧ k ≠ 11 ∧ k ≠ 12 ∧ k ≠ 13 ∧ k ≠ 14 ∧ k ≠ 22 ∧ k ≠ 23 ∧ k ≠ 24 ∧ k ≠ 25 ∧ k ≠ 26 ∧ k ≠ 27 ∧ k ≠ 42 ∧ k ≠ 28 ∧ k ≠ 29 ∧ k ≠ 30 ∧ k ≠ 31 ∧ k ≠ 32 ∧ k ≠ 33 ∧ k ≠ 34 ∧ k ≠ 35 ∧ k ≠ 36 ∧ k ≠ 37 ∧ k ≠ 38 ∧ k ≠ 44 ∧ k ≠ 46 ∧ k ≠ 39 ∧ k ≠ 40 ∧ k ≠ 41 ∧ k ≠ 43 ∧ k ≠ 45) : kidB k m g = false ∧ ltK k = ⟨#[63]⟩ := by
  obtain ⟨e1, e2, e20, e21, e3, e4, e5, e10, e11, e12, e13, e14, e22, e23, e24, e25, e26, e27, e42, e28, e29, e30, e31, e32, e33, e34, e35, e36, e37, e38, e44, e46, e39, e40, e41, e43, e45⟩ := h
  exact ⟨by simp [kidB, e1, e2, e20, e21, e3, e4, e5, e10, e11, e12, e13, e14, e22, e23, e24, e25, e26, e27, e42, e28, e29, e30, e31, e32, e33, e34, e35, e36, e37, e38, e44, e46, e39, e40, e41, e43, e45], by simp [ltK, e1, e2, e20, e21, e3, e4, e5, e10, e11, e12, e13, e14, e22, e23, e24, e25, e26, e27, e42, e28, e29, e30, e31, e32, e33, e34, e35, e36, e37, e38, e44, e46, e39, e40, e41, e43, e45]⟩
/-- All over a kind's letters. -/
theorem rall_kind (k : Int) (h : k = 1 ∨ k = 2 ∨ k = 20 ∨ k = 21 ∨ k = 3 ∨ k = 4 ∨ k = 5 ∨ k = 10 ∨ k = 11 ∨ k = 12 ∨ k = 13 ∨ k = 14 ∨ k = 22 ∨ k = 23 ∨ k = 24 ∨ k = 25 ∨ k = 26 ∨ k = 27 ∨ k = 42 ∨ k = 28 ∨ k = 29 ∨ k = 30 ∨ k = 31 ∨ k = 32 ∨ k = 33 ∨ k = 34 ∨ k = 35 ∨ k = 36 ∨ k = 37 ∨ k = 38 ∨ k = 44 ∨ k = 46 ∨ k = 39 ∨ k = 40 ∨ k = 41 ∨ k = 43 ∨ k = 45) (ko : Option Addr) (n kc : Nat) (g : Nat → Int × ByteArray) (w : World) (hk : Kf w ko n g) :
    (ltK k).toList ≠ [63] ∧ Calls Tryz.prog 72 #[.slice ko n kc, .string (ltK k)] w fun e w' => e = .returned (.bool (kidB k n g)) ∧ Below w.heap.size w w' := by
  unfold ltK kidB
  by_cases c1 : k = 1 ∨ k = 2 ∨ k = 20 ∨ k = 21
  · rw [if_pos c1, if_pos c1]
    exact ⟨by simp, rall_plain [] ⟨#[]⟩ rfl (by decide) (by decide) ko n kc g w hk⟩
  rw [if_neg c1, if_neg c1]
  by_cases c3 : k = 3
  · rw [if_pos c3, if_pos c3]
    exact ⟨by simp, rall_plain [2, 1] ⟨#[118, 110]⟩ rfl (by decide) (by decide) ko n kc g w hk⟩
  rw [if_neg c3, if_neg c3]
  by_cases c4 : k = 4
  · rw [if_pos c4, if_pos c4]
    exact ⟨by simp, rall_plain [2, 1, 1] ⟨#[118, 110, 110]⟩ rfl (by decide) (by decide) ko n kc g w hk⟩
  rw [if_neg c4, if_neg c4]
  by_cases c5 : k = 5
  · rw [if_pos c5, if_pos c5]
    exact ⟨by simp, rall_star 1 ⟨#[110, 42]⟩ rfl (by decide) (by decide) (by decide) (by decide) ko n kc g w hk⟩
  rw [if_neg c5, if_neg c5]
  by_cases c10 : k = 10 ∨ k = 11
  · rw [if_pos c10, if_pos c10]
    exact ⟨by simp, rall_plain [1] ⟨#[110]⟩ rfl (by decide) (by decide) ko n kc g w hk⟩
  rw [if_neg c10, if_neg c10]
  by_cases c12 : k = 12
  · rw [if_pos c12, if_pos c12]
    exact ⟨by simp, rall_plain [1, 3, 3] ⟨#[110, 98, 98]⟩ rfl (by decide) (by decide) ko n kc g w hk⟩
  rw [if_neg c12, if_neg c12]
  by_cases c13 : k = 13
  · rw [if_pos c13, if_pos c13]
    exact ⟨by simp, rall_plain [1, 3] ⟨#[110, 98]⟩ rfl (by decide) (by decide) ko n kc g w hk⟩
  rw [if_neg c13, if_neg c13]
  by_cases c14 : k = 14
  · rw [if_pos c14, if_pos c14]
    exact ⟨by simp, rall_plus 4 ⟨#[115, 43]⟩ rfl (by decide) (by decide) (by decide) (by decide) ko n kc g w hk⟩
  rw [if_neg c14, if_neg c14]
  by_cases c22 : k = 22
  · rw [if_pos c22, if_pos c22]
    exact ⟨by simp, rall_plain [5] ⟨#[111]⟩ rfl (by decide) (by decide) ko n kc g w hk⟩
  rw [if_neg c22, if_neg c22]
  by_cases c23 : k = 23
  · rw [if_pos c23, if_pos c23]
    exact ⟨by simp, rall_plain [3] ⟨#[98]⟩ rfl (by decide) (by decide) ko n kc g w hk⟩
  rw [if_neg c23, if_neg c23]
  by_cases c24 : k = 24 ∨ k = 25 ∨ k = 26 ∨ k = 27 ∨ k = 42
  · rw [if_pos c24, if_pos c24]
    exact ⟨by simp, rall_plain [2] ⟨#[118]⟩ rfl (by decide) (by decide) ko n kc g w hk⟩
  rw [if_neg c24, if_neg c24]
  by_cases c28 : k = 28 ∨ k = 29 ∨ k = 30 ∨ k = 31 ∨ k = 32 ∨ k = 33 ∨ k = 34 ∨ k = 35 ∨ k = 36 ∨ k = 37 ∨ k = 38 ∨ k = 44 ∨ k = 46
  · rw [if_pos c28, if_pos c28]
    exact ⟨by simp, rall_plain [2, 2] ⟨#[118, 118]⟩ rfl (by decide) (by decide) ko n kc g w hk⟩
  rw [if_neg c28, if_neg c28]
  by_cases c39 : k = 39
  · rw [if_pos c39, if_pos c39]
    exact ⟨by simp, rall_plain [5, 2] ⟨#[111, 118]⟩ rfl (by decide) (by decide) ko n kc g w hk⟩
  rw [if_neg c39, if_neg c39]
  by_cases c40 : k = 40 ∨ k = 41
  · rw [if_pos c40, if_pos c40]
    exact ⟨by simp, rall_plain [2, 5] ⟨#[118, 111]⟩ rfl (by decide) (by decide) ko n kc g w hk⟩
  rw [if_neg c40, if_neg c40]
  by_cases c43 : k = 43
  · rw [if_pos c43, if_pos c43]
    exact ⟨by simp, rall_star 2 ⟨#[118, 42]⟩ rfl (by decide) (by decide) (by decide) (by decide) ko n kc g w hk⟩
  rw [if_neg c43, if_neg c43]
  by_cases c45 : k = 45
  · rw [if_pos c45, if_pos c45]
    exact ⟨by simp, rall_plain [2, 2, 2] ⟨#[118, 118, 118]⟩ rfl (by decide) (by decide) ko n kc g w hk⟩
  rw [if_neg c45, if_neg c45]
  exact absurd h (by omega)
end Go.Proofs.YtiahilelcppfgaaGreat
