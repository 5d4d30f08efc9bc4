
/- Package term: kidsFit. -/

import Derived.Test.YtiahilelcppfgaaGreatTH0

import Derived.Test.YtiahilelcppfgaaGreatTH1

import Derived.Test.YtiahilelcppfgaaGreatTH2

import Derived.Test.YtiahilelcppfgaaGreatTH3

namespace Go.Proofs.YtiahilelcppfgaaGreat

open Go.RowKit

set_option linter.unusedVariables false

set_option maxHeartbeats 4000000 in
theorem kidsFit_no (k : Int) (t : ByteArray) (m : Int) (so ao ko : Option Addr) (sn sc an ac n kc : Nat) (g : Nat → Int × ByteArray) (w : World) (h : Kf w ko n g) (hk : k ≠ 1 ∧ k ≠ 2 ∧ k ≠ 20 ∧ k ≠ 21 ∧ k ≠ 3 ∧ k ≠ 4 ∧ k ≠ 5 ∧ k ≠ 10 ∧ k ≠ 11 ∧ k ≠ 12 ∧ k ≠ 13 ∧ k ≠ 14 ∧ k ≠ 22 ∧ k ≠ 23 ∧ k ≠ 24 ∧ k ≠ 25 ∧ k ≠ 26 ∧ k ≠ 27 ∧ k ≠ 42 ∧ k ≠ 28 ∧ k ≠ 29 ∧ k ≠ 30 ∧ k ≠ 31 ∧ k ≠ 32 ∧ k ≠ 33 ∧ k ≠ 34 ∧ k ≠ 35 ∧ k ≠ 36 ∧ k ≠ 37 ∧ k ≠ 38 ∧ k ≠ 44 ∧ k ≠ 46 ∧ k ≠ 39 ∧ k ≠ 40 ∧ k ≠ 41 ∧ k ≠ 43 ∧ k ≠ 45) :
    Calls Tryz.prog 59 #[.agg #[.int .i64 k, .string t, .int .i64 m, .slice so sn sc, .slice ao an ac, .slice ko n kc]] w fun e w' => e = .returned (.bool (kidB k n g)) ∧ Below w.heap.size w w' := by
  have k0 := box_below w (.cells #[.int .i64 k, .string t, .int .i64 m, .slice so sn sc, .slice ao an ac, .slice ko n kc] 31)
  obtain ⟨b0, b1, b2, b3, b4, b5⟩ := box6 (allocNew w (.cells #[.int .i64 k, .string t, .int .i64 m, .slice so sn sc, .slice ao an ac, .slice ko n kc] 31))
  obtain ⟨e1, e2, e20, e21, e3, e4, e5, e10, e11, e12, e13, e14, e22, e23, e24, e25, e26, e27, e42, e28, e29, e30, e31, e32, e33, e34, e35, e36, e37, e38, e44, e46, e39, e40, e41, e43, e45⟩ := hk
  have hno : kidB k n g = false := by simp [kidB, e1, e2, e20, e21, e3, e4, e5, e10, e11, e12, e13, e14, e22, e23, e24, e25, e26, e27, e42, e28, e29, e30, e31, e32, e33, e34, e35, e36, e37, e38, e44, e46, e39, e40, e41, e43, e45]
  rw [hno]
  clear hno
  have f1 : (k == 1) = false := by simp [e1]
  have f2 : (k == 2) = false := by simp [e2]
  have f20 : (k == 20) = false := by simp [e20]
  have f21 : (k == 21) = false := by simp [e21]
  have f3 : (k == 3) = false := by simp [e3]
  have f4 : (k == 4) = false := by simp [e4]
  have f5 : (k == 5) = false := by simp [e5]
  have f10 : (k == 10) = false := by simp [e10]
  have f11 : (k == 11) = false := by simp [e11]
  have f12 : (k == 12) = false := by simp [e12]
  have f13 : (k == 13) = false := by simp [e13]
  have f14 : (k == 14) = false := by simp [e14]
  have f22 : (k == 22) = false := by simp [e22]
  have f23 : (k == 23) = false := by simp [e23]
  have f24 : (k == 24) = false := by simp [e24]
  have f25 : (k == 25) = false := by simp [e25]
  have f26 : (k == 26) = false := by simp [e26]
  have f27 : (k == 27) = false := by simp [e27]
  have f42 : (k == 42) = false := by simp [e42]
  have f28 : (k == 28) = false := by simp [e28]
  have f29 : (k == 29) = false := by simp [e29]
  have f30 : (k == 30) = false := by simp [e30]
  have f31 : (k == 31) = false := by simp [e31]
  have f32 : (k == 32) = false := by simp [e32]
  have f33 : (k == 33) = false := by simp [e33]
  have f34 : (k == 34) = false := by simp [e34]
  have f35 : (k == 35) = false := by simp [e35]
  have f36 : (k == 36) = false := by simp [e36]
  have f37 : (k == 37) = false := by simp [e37]
  have f38 : (k == 38) = false := by simp [e38]
  have f44 : (k == 44) = false := by simp [e44]
  have f46 : (k == 46) = false := by simp [e46]
  have f39 : (k == 39) = false := by simp [e39]
  have f40 : (k == 40) = false := by simp [e40]
  have f41 : (k == 41) = false := by simp [e41]
  have f43 : (k == 43) = false := by simp [e43]
  have f45 : (k == 45) = false := by simp [e45]
  clear e1 e2 e20 e21 e3 e4 e5 e10 e11 e12 e13 e14 e22 e23 e24 e25 e26 e27 e42 e28 e29 e30 e31 e32 e33 e34 e35 e36 e37 e38 e44 e46 e39 e40 e41 e43 e45
  go_enter Tryz.func59, Tryz.ntmps59
  go_wp2
  go_ret
  exact ⟨rfl, k0⟩
theorem kidsFit_any (k : Int) (t : ByteArray) (m : Int) (so ao ko : Option Addr) (sn sc an ac n kc : Nat) (g : Nat → Int × ByteArray) (w : World) (h : Kf w ko n g) :
    Calls Tryz.prog 59 #[.agg #[.int .i64 k, .string t, .int .i64 m, .slice so sn sc, .slice ao an ac, .slice ko n kc]] w fun e w' => e = .returned (.bool (kidB k n g)) ∧ Below w.heap.size w w' := by
  by_cases e1 : k = 1
  · subst e1; exact kidsFit_1 t m so ao ko sn sc an ac n kc g w h
  by_cases e2 : k = 2
  · subst e2; exact kidsFit_2 t m so ao ko sn sc an ac n kc g w h
  by_cases e20 : k = 20
  · subst e20; exact kidsFit_20 t m so ao ko sn sc an ac n kc g w h
  by_cases e21 : k = 21
  · subst e21; exact kidsFit_21 t m so ao ko sn sc an ac n kc g w h
  by_cases e3 : k = 3
  · subst e3; exact kidsFit_3 t m so ao ko sn sc an ac n kc g w h
  by_cases e4 : k = 4
  · subst e4; exact kidsFit_4 t m so ao ko sn sc an ac n kc g w h
  by_cases e5 : k = 5
  · subst e5; exact kidsFit_5 t m so ao ko sn sc an ac n kc g w h
  by_cases e10 : k = 10
  · subst e10; exact kidsFit_10 t m so ao ko sn sc an ac n kc g w h
  by_cases e11 : k = 11
  · subst e11; exact kidsFit_11 t m so ao ko sn sc an ac n kc g w h
  by_cases e12 : k = 12
  · subst e12; exact kidsFit_12 t m so ao ko sn sc an ac n kc g w h
  by_cases e13 : k = 13
  · subst e13; exact kidsFit_13 t m so ao ko sn sc an ac n kc g w h
  by_cases e14 : k = 14
  · subst e14; exact kidsFit_14 t m so ao ko sn sc an ac n kc g w h
  by_cases e22 : k = 22
  · subst e22; exact kidsFit_22 t m so ao ko sn sc an ac n kc g w h
  by_cases e23 : k = 23
  · subst e23; exact kidsFit_23 t m so ao ko sn sc an ac n kc g w h
  by_cases e24 : k = 24
  · subst e24; exact kidsFit_24 t m so ao ko sn sc an ac n kc g w h
  by_cases e25 : k = 25
  · subst e25; exact kidsFit_25 t m so ao ko sn sc an ac n kc g w h
  by_cases e26 : k = 26
  · subst e26; exact kidsFit_26 t m so ao ko sn sc an ac n kc g w h
  by_cases e27 : k = 27
  · subst e27; exact kidsFit_27 t m so ao ko sn sc an ac n kc g w h
  by_cases e42 : k = 42
  · subst e42; exact kidsFit_42 t m so ao ko sn sc an ac n kc g w h
  by_cases e28 : k = 28
  · subst e28; exact kidsFit_28 t m so ao ko sn sc an ac n kc g w h
  by_cases e29 : k = 29
  · subst e29; exact kidsFit_29 t m so ao ko sn sc an ac n kc g w h
  by_cases e30 : k = 30
  · subst e30; exact kidsFit_30 t m so ao ko sn sc an ac n kc g w h
  by_cases e31 : k = 31
  · subst e31; exact kidsFit_31 t m so ao ko sn sc an ac n kc g w h
  by_cases e32 : k = 32
  · subst e32; exact kidsFit_32 t m so ao ko sn sc an ac n kc g w h
  by_cases e33 : k = 33
  · subst e33; exact kidsFit_33 t m so ao ko sn sc an ac n kc g w h
  by_cases e34 : k = 34
  · subst e34; exact kidsFit_34 t m so ao ko sn sc an ac n kc g w h
  by_cases e35 : k = 35
  · subst e35; exact kidsFit_35 t m so ao ko sn sc an ac n kc g w h
  by_cases e36 : k = 36
  · subst e36; exact kidsFit_36 t m so ao ko sn sc an ac n kc g w h
  by_cases e37 : k = 37
  · subst e37; exact kidsFit_37 t m so ao ko sn sc an ac n kc g w h
  by_cases e38 : k = 38
  · subst e38; exact kidsFit_38 t m so ao ko sn sc an ac n kc g w h
  by_cases e44 : k = 44
  · subst e44; exact kidsFit_44 t m so ao ko sn sc an ac n kc g w h
  by_cases e46 : k = 46
  · subst e46; exact kidsFit_46 t m so ao ko sn sc an ac n kc g w h
  by_cases e39 : k = 39
  · subst e39; exact kidsFit_39 t m so ao ko sn sc an ac n kc g w h
  by_cases e40 : k = 40
  · subst e40; exact kidsFit_40 t m so ao ko sn sc an ac n kc g w h
  by_cases e41 : k = 41
  · subst e41; exact kidsFit_41 t m so ao ko sn sc an ac n kc g w h
  by_cases e43 : k = 43
  · subst e43; exact kidsFit_43 t m so ao ko sn sc an ac n kc g w h
  by_cases e45 : k = 45
  · subst e45; exact kidsFit_45 t m so ao ko sn sc an ac n kc g w h
  exact kidsFit_no k t m so ao ko sn sc an ac n kc g w h ⟨e1, e2, e20, e21, e3, e4, e5, e10, e11, e12, e13, e14, e22, e23, e24, e25, e26, e27, e42, e28, e29, e30, e31, e32, e33, e34, e35, e36, e37, e38, e44, e46, e39, e40, e41, e43, e45⟩
end Go.Proofs.YtiahilelcppfgaaGreat
