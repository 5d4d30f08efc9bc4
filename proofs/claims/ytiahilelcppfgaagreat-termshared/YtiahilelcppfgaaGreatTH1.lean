
/- Package term: kidsFit. -/

import Derived.Test.YtiahilelcppfgaaGreatTH0

namespace Go.Proofs.YtiahilelcppfgaaGreat

open Go.RowKit

set_option linter.unusedVariables false

set_option maxHeartbeats 4000000 in
theorem kidsFit_12 (t : ByteArray) (m : Int) (so ao ko : Option Addr) (sn sc an ac n kc : Nat) (g : Nat → Int × ByteArray) (w : World) (h : Kf w ko n g) :
    Calls Tryz.prog 59 #[.agg #[.int .i64 12, .string t, .int .i64 m, .slice so sn sc, .slice ao an ac, .slice ko n kc]] w fun e w' => e = .returned (.bool (kidB 12 n g)) ∧ Below w.heap.size w w' := by
  have k0 := box_below w (.cells #[.int .i64 12, .string t, .int .i64 m, .slice so sn sc, .slice ao an ac, .slice ko n kc] 31)
  obtain ⟨b0, b1, b2, b3, b4, b5⟩ := box6 (allocNew w (.cells #[.int .i64 12, .string t, .int .i64 m, .slice so sn sc, .slice ao an ac, .slice ko n kc] 31))
  rw [show kidB 12 n g = kaB [1, 3, 3] n g from rfl]
  have k1 := box_below (w.alloc (.cells #[.int .i64 12, .string t, .int .i64 m, .slice so sn sc, .slice ao an ac, .slice ko n kc] 31)) (.cells #[.func (.func 87) #[] #[], .func (.func 89) #[] #[], .func (.func 89) #[] #[]] 41)
  have hc := kidsAre_any ko n kc g (some ⟨(w.alloc (.cells #[.int .i64 12, .string t, .int .i64 m, .slice so sn sc, .slice ao an ac, .slice ko n kc] 31)).heap.size, 0, none⟩) 3 [1, 3, 3] _ ((h.below k0 (Nat.le_refl _)).below k1 (Nat.le_refl _)) (wq_lit (w.alloc (.cells #[.int .i64 12, .string t, .int .i64 m, .slice so sn sc, .slice ao an ac, .slice ko n kc] 31)) 41 [1, 3, 3] (by decide) (by decide))
  rw [show (([1, 3, 3] : List Nat).length) = 3 from rfl, World.size_alloc] at hc
  have k2 := k0.trans (k1.mono k0.size)
  generalize kaB [1, 3, 3] n g = B at *
  go_enter Tryz.func59, Tryz.ntmps59
  go_wp2_with (go_at_call 85; (with_reducible refine hc.mono ?_); rintro e w6 ⟨rfl, b6⟩)
  go_ret
  exact ⟨rfl, k2.trans (b6.mono k2.size)⟩
set_option maxHeartbeats 4000000 in
theorem kidsFit_13 (t : ByteArray) (m : Int) (so ao ko : Option Addr) (sn sc an ac n kc : Nat) (g : Nat → Int × ByteArray) (w : World) (h : Kf w ko n g) :
    Calls Tryz.prog 59 #[.agg #[.int .i64 13, .string t, .int .i64 m, .slice so sn sc, .slice ao an ac, .slice ko n kc]] w fun e w' => e = .returned (.bool (kidB 13 n g)) ∧ Below w.heap.size w w' := by
  have k0 := box_below w (.cells #[.int .i64 13, .string t, .int .i64 m, .slice so sn sc, .slice ao an ac, .slice ko n kc] 31)
  obtain ⟨b0, b1, b2, b3, b4, b5⟩ := box6 (allocNew w (.cells #[.int .i64 13, .string t, .int .i64 m, .slice so sn sc, .slice ao an ac, .slice ko n kc] 31))
  rw [show kidB 13 n g = kaB [1, 3] n g from rfl]
  have k1 := box_below (w.alloc (.cells #[.int .i64 13, .string t, .int .i64 m, .slice so sn sc, .slice ao an ac, .slice ko n kc] 31)) (.cells #[.func (.func 87) #[] #[], .func (.func 89) #[] #[]] 41)
  have hc := kidsAre_any ko n kc g (some ⟨(w.alloc (.cells #[.int .i64 13, .string t, .int .i64 m, .slice so sn sc, .slice ao an ac, .slice ko n kc] 31)).heap.size, 0, none⟩) 2 [1, 3] _ ((h.below k0 (Nat.le_refl _)).below k1 (Nat.le_refl _)) (wq_lit (w.alloc (.cells #[.int .i64 13, .string t, .int .i64 m, .slice so sn sc, .slice ao an ac, .slice ko n kc] 31)) 41 [1, 3] (by decide) (by decide))
  rw [show (([1, 3] : List Nat).length) = 2 from rfl, World.size_alloc] at hc
  have k2 := k0.trans (k1.mono k0.size)
  generalize kaB [1, 3] n g = B at *
  go_enter Tryz.func59, Tryz.ntmps59
  go_wp2_with (go_at_call 85; (with_reducible refine hc.mono ?_); rintro e w6 ⟨rfl, b6⟩)
  go_ret
  exact ⟨rfl, k2.trans (b6.mono k2.size)⟩
set_option maxHeartbeats 4000000 in
theorem kidsFit_14 (t : ByteArray) (m : Int) (so ao ko : Option Addr) (sn sc an ac n kc : Nat) (g : Nat → Int × ByteArray) (w : World) (h : Kf w ko n g) :
    Calls Tryz.prog 59 #[.agg #[.int .i64 14, .string t, .int .i64 m, .slice so sn sc, .slice ao an ac, .slice ko n kc]] w fun e w' => e = .returned (.bool (kidB 14 n g)) ∧ Below w.heap.size w w' := by
  have k0 := box_below w (.cells #[.int .i64 14, .string t, .int .i64 m, .slice so sn sc, .slice ao an ac, .slice ko n kc] 31)
  obtain ⟨b0, b1, b2, b3, b4, b5⟩ := box6 (allocNew w (.cells #[.int .i64 14, .string t, .int .i64 m, .slice so sn sc, .slice ao an ac, .slice ko n kc] 31))
  rw [show kidB 14 n g = kallB 4 n g from rfl]
  have hc := areAll_any 4 (by decide) (by decide) ko n kc g _ (h.below k0 (Nat.le_refl _))
  rw [show fv 4 = .func (.func 91) #[] #[] from rfl] at hc
  generalize kallB 4 n g = B at *
  go_enter Tryz.func59, Tryz.ntmps59
  go_wp2_with (go_at_call 90; (with_reducible refine hc.mono ?_); rintro e w6 ⟨rfl, b6⟩)
  go_ret
  exact ⟨rfl, k0.trans (b6.mono k0.size)⟩
set_option maxHeartbeats 4000000 in
theorem kidsFit_22 (t : ByteArray) (m : Int) (so ao ko : Option Addr) (sn sc an ac n kc : Nat) (g : Nat → Int × ByteArray) (w : World) (h : Kf w ko n g) :
    Calls Tryz.prog 59 #[.agg #[.int .i64 22, .string t, .int .i64 m, .slice so sn sc, .slice ao an ac, .slice ko n kc]] w fun e w' => e = .returned (.bool (kidB 22 n g)) ∧ Below w.heap.size w w' := by
  have k0 := box_below w (.cells #[.int .i64 22, .string t, .int .i64 m, .slice so sn sc, .slice ao an ac, .slice ko n kc] 31)
  obtain ⟨b0, b1, b2, b3, b4, b5⟩ := box6 (allocNew w (.cells #[.int .i64 22, .string t, .int .i64 m, .slice so sn sc, .slice ao an ac, .slice ko n kc] 31))
  rw [show kidB 22 n g = kaB [5] n g from rfl]
  have k1 := box_below (w.alloc (.cells #[.int .i64 22, .string t, .int .i64 m, .slice so sn sc, .slice ao an ac, .slice ko n kc] 31)) (.cells #[.func (.func 92) #[] #[]] 41)
  have hc := kidsAre_any ko n kc g (some ⟨(w.alloc (.cells #[.int .i64 22, .string t, .int .i64 m, .slice so sn sc, .slice ao an ac, .slice ko n kc] 31)).heap.size, 0, none⟩) 1 [5] _ ((h.below k0 (Nat.le_refl _)).below k1 (Nat.le_refl _)) (wq_lit (w.alloc (.cells #[.int .i64 22, .string t, .int .i64 m, .slice so sn sc, .slice ao an ac, .slice ko n kc] 31)) 41 [5] (by decide) (by decide))
  rw [show (([5] : List Nat).length) = 1 from rfl, World.size_alloc] at hc
  have k2 := k0.trans (k1.mono k0.size)
  generalize kaB [5] n g = B at *
  go_enter Tryz.func59, Tryz.ntmps59
  go_wp2_with (go_at_call 85; (with_reducible refine hc.mono ?_); rintro e w6 ⟨rfl, b6⟩)
  go_ret
  exact ⟨rfl, k2.trans (b6.mono k2.size)⟩
set_option maxHeartbeats 4000000 in
theorem kidsFit_23 (t : ByteArray) (m : Int) (so ao ko : Option Addr) (sn sc an ac n kc : Nat) (g : Nat → Int × ByteArray) (w : World) (h : Kf w ko n g) :
    Calls Tryz.prog 59 #[.agg #[.int .i64 23, .string t, .int .i64 m, .slice so sn sc, .slice ao an ac, .slice ko n kc]] w fun e w' => e = .returned (.bool (kidB 23 n g)) ∧ Below w.heap.size w w' := by
  have k0 := box_below w (.cells #[.int .i64 23, .string t, .int .i64 m, .slice so sn sc, .slice ao an ac, .slice ko n kc] 31)
  obtain ⟨b0, b1, b2, b3, b4, b5⟩ := box6 (allocNew w (.cells #[.int .i64 23, .string t, .int .i64 m, .slice so sn sc, .slice ao an ac, .slice ko n kc] 31))
  rw [show kidB 23 n g = kaB [3] n g from rfl]
  have k1 := box_below (w.alloc (.cells #[.int .i64 23, .string t, .int .i64 m, .slice so sn sc, .slice ao an ac, .slice ko n kc] 31)) (.cells #[.func (.func 89) #[] #[]] 41)
  have hc := kidsAre_any ko n kc g (some ⟨(w.alloc (.cells #[.int .i64 23, .string t, .int .i64 m, .slice so sn sc, .slice ao an ac, .slice ko n kc] 31)).heap.size, 0, none⟩) 1 [3] _ ((h.below k0 (Nat.le_refl _)).below k1 (Nat.le_refl _)) (wq_lit (w.alloc (.cells #[.int .i64 23, .string t, .int .i64 m, .slice so sn sc, .slice ao an ac, .slice ko n kc] 31)) 41 [3] (by decide) (by decide))
  rw [show (([3] : List Nat).length) = 1 from rfl, World.size_alloc] at hc
  have k2 := k0.trans (k1.mono k0.size)
  generalize kaB [3] n g = B at *
  go_enter Tryz.func59, Tryz.ntmps59
  go_wp2_with (go_at_call 85; (with_reducible refine hc.mono ?_); rintro e w6 ⟨rfl, b6⟩)
  go_ret
  exact ⟨rfl, k2.trans (b6.mono k2.size)⟩
set_option maxHeartbeats 4000000 in
theorem kidsFit_24 (t : ByteArray) (m : Int) (so ao ko : Option Addr) (sn sc an ac n kc : Nat) (g : Nat → Int × ByteArray) (w : World) (h : Kf w ko n g) :
    Calls Tryz.prog 59 #[.agg #[.int .i64 24, .string t, .int .i64 m, .slice so sn sc, .slice ao an ac, .slice ko n kc]] w fun e w' => e = .returned (.bool (kidB 24 n g)) ∧ Below w.heap.size w w' := by
  have k0 := box_below w (.cells #[.int .i64 24, .string t, .int .i64 m, .slice so sn sc, .slice ao an ac, .slice ko n kc] 31)
  obtain ⟨b0, b1, b2, b3, b4, b5⟩ := box6 (allocNew w (.cells #[.int .i64 24, .string t, .int .i64 m, .slice so sn sc, .slice ao an ac, .slice ko n kc] 31))
  rw [show kidB 24 n g = kaB [2] n g from rfl]
  have k1 := box_below (w.alloc (.cells #[.int .i64 24, .string t, .int .i64 m, .slice so sn sc, .slice ao an ac, .slice ko n kc] 31)) (.cells #[.func (.func 86) #[] #[]] 41)
  have hc := kidsAre_any ko n kc g (some ⟨(w.alloc (.cells #[.int .i64 24, .string t, .int .i64 m, .slice so sn sc, .slice ao an ac, .slice ko n kc] 31)).heap.size, 0, none⟩) 1 [2] _ ((h.below k0 (Nat.le_refl _)).below k1 (Nat.le_refl _)) (wq_lit (w.alloc (.cells #[.int .i64 24, .string t, .int .i64 m, .slice so sn sc, .slice ao an ac, .slice ko n kc] 31)) 41 [2] (by decide) (by decide))
  rw [show (([2] : List Nat).length) = 1 from rfl, World.size_alloc] at hc
  have k2 := k0.trans (k1.mono k0.size)
  generalize kaB [2] n g = B at *
  go_enter Tryz.func59, Tryz.ntmps59
  go_wp2_with (go_at_call 85; (with_reducible refine hc.mono ?_); rintro e w6 ⟨rfl, b6⟩)
  go_ret
  exact ⟨rfl, k2.trans (b6.mono k2.size)⟩
set_option maxHeartbeats 4000000 in
theorem kidsFit_25 (t : ByteArray) (m : Int) (so ao ko : Option Addr) (sn sc an ac n kc : Nat) (g : Nat → Int × ByteArray) (w : World) (h : Kf w ko n g) :
    Calls Tryz.prog 59 #[.agg #[.int .i64 25, .string t, .int .i64 m, .slice so sn sc, .slice ao an ac, .slice ko n kc]] w fun e w' => e = .returned (.bool (kidB 25 n g)) ∧ Below w.heap.size w w' := by
  have k0 := box_below w (.cells #[.int .i64 25, .string t, .int .i64 m, .slice so sn sc, .slice ao an ac, .slice ko n kc] 31)
  obtain ⟨b0, b1, b2, b3, b4, b5⟩ := box6 (allocNew w (.cells #[.int .i64 25, .string t, .int .i64 m, .slice so sn sc, .slice ao an ac, .slice ko n kc] 31))
  rw [show kidB 25 n g = kaB [2] n g from rfl]
  have k1 := box_below (w.alloc (.cells #[.int .i64 25, .string t, .int .i64 m, .slice so sn sc, .slice ao an ac, .slice ko n kc] 31)) (.cells #[.func (.func 86) #[] #[]] 41)
  have hc := kidsAre_any ko n kc g (some ⟨(w.alloc (.cells #[.int .i64 25, .string t, .int .i64 m, .slice so sn sc, .slice ao an ac, .slice ko n kc] 31)).heap.size, 0, none⟩) 1 [2] _ ((h.below k0 (Nat.le_refl _)).below k1 (Nat.le_refl _)) (wq_lit (w.alloc (.cells #[.int .i64 25, .string t, .int .i64 m, .slice so sn sc, .slice ao an ac, .slice ko n kc] 31)) 41 [2] (by decide) (by decide))
  rw [show (([2] : List Nat).length) = 1 from rfl, World.size_alloc] at hc
  have k2 := k0.trans (k1.mono k0.size)
  generalize kaB [2] n g = B at *
  go_enter Tryz.func59, Tryz.ntmps59
  go_wp2_with (go_at_call 85; (with_reducible refine hc.mono ?_); rintro e w6 ⟨rfl, b6⟩)
  go_ret
  exact ⟨rfl, k2.trans (b6.mono k2.size)⟩
set_option maxHeartbeats 4000000 in
theorem kidsFit_26 (t : ByteArray) (m : Int) (so ao ko : Option Addr) (sn sc an ac n kc : Nat) (g : Nat → Int × ByteArray) (w : World) (h : Kf w ko n g) :
    Calls Tryz.prog 59 #[.agg #[.int .i64 26, .string t, .int .i64 m, .slice so sn sc, .slice ao an ac, .slice ko n kc]] w fun e w' => e = .returned (.bool (kidB 26 n g)) ∧ Below w.heap.size w w' := by
  have k0 := box_below w (.cells #[.int .i64 26, .string t, .int .i64 m, .slice so sn sc, .slice ao an ac, .slice ko n kc] 31)
  obtain ⟨b0, b1, b2, b3, b4, b5⟩ := box6 (allocNew w (.cells #[.int .i64 26, .string t, .int .i64 m, .slice so sn sc, .slice ao an ac, .slice ko n kc] 31))
  rw [show kidB 26 n g = kaB [2] n g from rfl]
  have k1 := box_below (w.alloc (.cells #[.int .i64 26, .string t, .int .i64 m, .slice so sn sc, .slice ao an ac, .slice ko n kc] 31)) (.cells #[.func (.func 86) #[] #[]] 41)
  have hc := kidsAre_any ko n kc g (some ⟨(w.alloc (.cells #[.int .i64 26, .string t, .int .i64 m, .slice so sn sc, .slice ao an ac, .slice ko n kc] 31)).heap.size, 0, none⟩) 1 [2] _ ((h.below k0 (Nat.le_refl _)).below k1 (Nat.le_refl _)) (wq_lit (w.alloc (.cells #[.int .i64 26, .string t, .int .i64 m, .slice so sn sc, .slice ao an ac, .slice ko n kc] 31)) 41 [2] (by decide) (by decide))
  rw [show (([2] : List Nat).length) = 1 from rfl, World.size_alloc] at hc
  have k2 := k0.trans (k1.mono k0.size)
  generalize kaB [2] n g = B at *
  go_enter Tryz.func59, Tryz.ntmps59
  go_wp2_with (go_at_call 85; (with_reducible refine hc.mono ?_); rintro e w6 ⟨rfl, b6⟩)
  go_ret
  exact ⟨rfl, k2.trans (b6.mono k2.size)⟩
set_option maxHeartbeats 4000000 in
theorem kidsFit_27 (t : ByteArray) (m : Int) (so ao ko : Option Addr) (sn sc an ac n kc : Nat) (g : Nat → Int × ByteArray) (w : World) (h : Kf w ko n g) :
    Calls Tryz.prog 59 #[.agg #[.int .i64 27, .string t, .int .i64 m, .slice so sn sc, .slice ao an ac, .slice ko n kc]] w fun e w' => e = .returned (.bool (kidB 27 n g)) ∧ Below w.heap.size w w' := by
  have k0 := box_below w (.cells #[.int .i64 27, .string t, .int .i64 m, .slice so sn sc, .slice ao an ac, .slice ko n kc] 31)
  obtain ⟨b0, b1, b2, b3, b4, b5⟩ := box6 (allocNew w (.cells #[.int .i64 27, .string t, .int .i64 m, .slice so sn sc, .slice ao an ac, .slice ko n kc] 31))
  rw [show kidB 27 n g = kaB [2] n g from rfl]
  have k1 := box_below (w.alloc (.cells #[.int .i64 27, .string t, .int .i64 m, .slice so sn sc, .slice ao an ac, .slice ko n kc] 31)) (.cells #[.func (.func 86) #[] #[]] 41)
  have hc := kidsAre_any ko n kc g (some ⟨(w.alloc (.cells #[.int .i64 27, .string t, .int .i64 m, .slice so sn sc, .slice ao an ac, .slice ko n kc] 31)).heap.size, 0, none⟩) 1 [2] _ ((h.below k0 (Nat.le_refl _)).below k1 (Nat.le_refl _)) (wq_lit (w.alloc (.cells #[.int .i64 27, .string t, .int .i64 m, .slice so sn sc, .slice ao an ac, .slice ko n kc] 31)) 41 [2] (by decide) (by decide))
  rw [show (([2] : List Nat).length) = 1 from rfl, World.size_alloc] at hc
  have k2 := k0.trans (k1.mono k0.size)
  generalize kaB [2] n g = B at *
  go_enter Tryz.func59, Tryz.ntmps59
  go_wp2_with (go_at_call 85; (with_reducible refine hc.mono ?_); rintro e w6 ⟨rfl, b6⟩)
  go_ret
  exact ⟨rfl, k2.trans (b6.mono k2.size)⟩
end Go.Proofs.YtiahilelcppfgaaGreat
