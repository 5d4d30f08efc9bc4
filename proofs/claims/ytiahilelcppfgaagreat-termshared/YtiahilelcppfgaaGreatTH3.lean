
/- Package term: kidsFit. -/

import Derived.Test.YtiahilelcppfgaaGreatTH0

namespace Go.Proofs.YtiahilelcppfgaaGreat

open Go.RowKit

set_option linter.unusedVariables false

set_option maxHeartbeats 4000000 in
theorem kidsFit_36 (t : ByteArray) (m : Int) (so ao ko : Option Addr) (sn sc an ac n kc : Nat) (g : Nat → Int × ByteArray) (w : World) (h : Kf w ko n g) :
    Calls Tryz.prog 59 #[.agg #[.int .i64 36, .string t, .int .i64 m, .slice so sn sc, .slice ao an ac, .slice ko n kc]] w fun e w' => e = .returned (.bool (kidB 36 n g)) ∧ Below w.heap.size w w' := by
  have k0 := box_below w (.cells #[.int .i64 36, .string t, .int .i64 m, .slice so sn sc, .slice ao an ac, .slice ko n kc] 31)
  obtain ⟨b0, b1, b2, b3, b4, b5⟩ := box6 (allocNew w (.cells #[.int .i64 36, .string t, .int .i64 m, .slice so sn sc, .slice ao an ac, .slice ko n kc] 31))
  rw [show kidB 36 n g = kaB [2, 2] n g from rfl]
  have k1 := box_below (w.alloc (.cells #[.int .i64 36, .string t, .int .i64 m, .slice so sn sc, .slice ao an ac, .slice ko n kc] 31)) (.cells #[.func (.func 86) #[] #[], .func (.func 86) #[] #[]] 41)
  have hc := kidsAre_any ko n kc g (some ⟨(w.alloc (.cells #[.int .i64 36, .string t, .int .i64 m, .slice so sn sc, .slice ao an ac, .slice ko n kc] 31)).heap.size, 0, none⟩) 2 [2, 2] _ ((h.below k0 (Nat.le_refl _)).below k1 (Nat.le_refl _)) (wq_lit (w.alloc (.cells #[.int .i64 36, .string t, .int .i64 m, .slice so sn sc, .slice ao an ac, .slice ko n kc] 31)) 41 [2, 2] (by decide) (by decide))
  rw [show (([2, 2] : List Nat).length) = 2 from rfl, World.size_alloc] at hc
  have k2 := k0.trans (k1.mono k0.size)
  generalize kaB [2, 2] n g = B at *
  go_enter Tryz.func59, Tryz.ntmps59
  go_wp2_with (go_at_call 85; (with_reducible refine hc.mono ?_); rintro e w6 ⟨rfl, b6⟩)
  go_ret
  exact ⟨rfl, k2.trans (b6.mono k2.size)⟩
set_option maxHeartbeats 4000000 in
theorem kidsFit_37 (t : ByteArray) (m : Int) (so ao ko : Option Addr) (sn sc an ac n kc : Nat) (g : Nat → Int × ByteArray) (w : World) (h : Kf w ko n g) :
    Calls Tryz.prog 59 #[.agg #[.int .i64 37, .string t, .int .i64 m, .slice so sn sc, .slice ao an ac, .slice ko n kc]] w fun e w' => e = .returned (.bool (kidB 37 n g)) ∧ Below w.heap.size w w' := by
  have k0 := box_below w (.cells #[.int .i64 37, .string t, .int .i64 m, .slice so sn sc, .slice ao an ac, .slice ko n kc] 31)
  obtain ⟨b0, b1, b2, b3, b4, b5⟩ := box6 (allocNew w (.cells #[.int .i64 37, .string t, .int .i64 m, .slice so sn sc, .slice ao an ac, .slice ko n kc] 31))
  rw [show kidB 37 n g = kaB [2, 2] n g from rfl]
  have k1 := box_below (w.alloc (.cells #[.int .i64 37, .string t, .int .i64 m, .slice so sn sc, .slice ao an ac, .slice ko n kc] 31)) (.cells #[.func (.func 86) #[] #[], .func (.func 86) #[] #[]] 41)
  have hc := kidsAre_any ko n kc g (some ⟨(w.alloc (.cells #[.int .i64 37, .string t, .int .i64 m, .slice so sn sc, .slice ao an ac, .slice ko n kc] 31)).heap.size, 0, none⟩) 2 [2, 2] _ ((h.below k0 (Nat.le_refl _)).below k1 (Nat.le_refl _)) (wq_lit (w.alloc (.cells #[.int .i64 37, .string t, .int .i64 m, .slice so sn sc, .slice ao an ac, .slice ko n kc] 31)) 41 [2, 2] (by decide) (by decide))
  rw [show (([2, 2] : List Nat).length) = 2 from rfl, World.size_alloc] at hc
  have k2 := k0.trans (k1.mono k0.size)
  generalize kaB [2, 2] n g = B at *
  go_enter Tryz.func59, Tryz.ntmps59
  go_wp2_with (go_at_call 85; (with_reducible refine hc.mono ?_); rintro e w6 ⟨rfl, b6⟩)
  go_ret
  exact ⟨rfl, k2.trans (b6.mono k2.size)⟩
set_option maxHeartbeats 4000000 in
theorem kidsFit_38 (t : ByteArray) (m : Int) (so ao ko : Option Addr) (sn sc an ac n kc : Nat) (g : Nat → Int × ByteArray) (w : World) (h : Kf w ko n g) :
    Calls Tryz.prog 59 #[.agg #[.int .i64 38, .string t, .int .i64 m, .slice so sn sc, .slice ao an ac, .slice ko n kc]] w fun e w' => e = .returned (.bool (kidB 38 n g)) ∧ Below w.heap.size w w' := by
  have k0 := box_below w (.cells #[.int .i64 38, .string t, .int .i64 m, .slice so sn sc, .slice ao an ac, .slice ko n kc] 31)
  obtain ⟨b0, b1, b2, b3, b4, b5⟩ := box6 (allocNew w (.cells #[.int .i64 38, .string t, .int .i64 m, .slice so sn sc, .slice ao an ac, .slice ko n kc] 31))
  rw [show kidB 38 n g = kaB [2, 2] n g from rfl]
  have k1 := box_below (w.alloc (.cells #[.int .i64 38, .string t, .int .i64 m, .slice so sn sc, .slice ao an ac, .slice ko n kc] 31)) (.cells #[.func (.func 86) #[] #[], .func (.func 86) #[] #[]] 41)
  have hc := kidsAre_any ko n kc g (some ⟨(w.alloc (.cells #[.int .i64 38, .string t, .int .i64 m, .slice so sn sc, .slice ao an ac, .slice ko n kc] 31)).heap.size, 0, none⟩) 2 [2, 2] _ ((h.below k0 (Nat.le_refl _)).below k1 (Nat.le_refl _)) (wq_lit (w.alloc (.cells #[.int .i64 38, .string t, .int .i64 m, .slice so sn sc, .slice ao an ac, .slice ko n kc] 31)) 41 [2, 2] (by decide) (by decide))
  rw [show (([2, 2] : List Nat).length) = 2 from rfl, World.size_alloc] at hc
  have k2 := k0.trans (k1.mono k0.size)
  generalize kaB [2, 2] n g = B at *
  go_enter Tryz.func59, Tryz.ntmps59
  go_wp2_with (go_at_call 85; (with_reducible refine hc.mono ?_); rintro e w6 ⟨rfl, b6⟩)
  go_ret
  exact ⟨rfl, k2.trans (b6.mono k2.size)⟩
set_option maxHeartbeats 4000000 in
theorem kidsFit_44 (t : ByteArray) (m : Int) (so ao ko : Option Addr) (sn sc an ac n kc : Nat) (g : Nat → Int × ByteArray) (w : World) (h : Kf w ko n g) :
    Calls Tryz.prog 59 #[.agg #[.int .i64 44, .string t, .int .i64 m, .slice so sn sc, .slice ao an ac, .slice ko n kc]] w fun e w' => e = .returned (.bool (kidB 44 n g)) ∧ Below w.heap.size w w' := by
  have k0 := box_below w (.cells #[.int .i64 44, .string t, .int .i64 m, .slice so sn sc, .slice ao an ac, .slice ko n kc] 31)
  obtain ⟨b0, b1, b2, b3, b4, b5⟩ := box6 (allocNew w (.cells #[.int .i64 44, .string t, .int .i64 m, .slice so sn sc, .slice ao an ac, .slice ko n kc] 31))
  rw [show kidB 44 n g = kaB [2, 2] n g from rfl]
  have k1 := box_below (w.alloc (.cells #[.int .i64 44, .string t, .int .i64 m, .slice so sn sc, .slice ao an ac, .slice ko n kc] 31)) (.cells #[.func (.func 86) #[] #[], .func (.func 86) #[] #[]] 41)
  have hc := kidsAre_any ko n kc g (some ⟨(w.alloc (.cells #[.int .i64 44, .string t, .int .i64 m, .slice so sn sc, .slice ao an ac, .slice ko n kc] 31)).heap.size, 0, none⟩) 2 [2, 2] _ ((h.below k0 (Nat.le_refl _)).below k1 (Nat.le_refl _)) (wq_lit (w.alloc (.cells #[.int .i64 44, .string t, .int .i64 m, .slice so sn sc, .slice ao an ac, .slice ko n kc] 31)) 41 [2, 2] (by decide) (by decide))
  rw [show (([2, 2] : List Nat).length) = 2 from rfl, World.size_alloc] at hc
  have k2 := k0.trans (k1.mono k0.size)
  generalize kaB [2, 2] n g = B at *
  go_enter Tryz.func59, Tryz.ntmps59
  go_wp2_with (go_at_call 85; (with_reducible refine hc.mono ?_); rintro e w6 ⟨rfl, b6⟩)
  go_ret
  exact ⟨rfl, k2.trans (b6.mono k2.size)⟩
set_option maxHeartbeats 4000000 in
theorem kidsFit_46 (t : ByteArray) (m : Int) (so ao ko : Option Addr) (sn sc an ac n kc : Nat) (g : Nat → Int × ByteArray) (w : World) (h : Kf w ko n g) :
    Calls Tryz.prog 59 #[.agg #[.int .i64 46, .string t, .int .i64 m, .slice so sn sc, .slice ao an ac, .slice ko n kc]] w fun e w' => e = .returned (.bool (kidB 46 n g)) ∧ Below w.heap.size w w' := by
  have k0 := box_below w (.cells #[.int .i64 46, .string t, .int .i64 m, .slice so sn sc, .slice ao an ac, .slice ko n kc] 31)
  obtain ⟨b0, b1, b2, b3, b4, b5⟩ := box6 (allocNew w (.cells #[.int .i64 46, .string t, .int .i64 m, .slice so sn sc, .slice ao an ac, .slice ko n kc] 31))
  rw [show kidB 46 n g = kaB [2, 2] n g from rfl]
  have k1 := box_below (w.alloc (.cells #[.int .i64 46, .string t, .int .i64 m, .slice so sn sc, .slice ao an ac, .slice ko n kc] 31)) (.cells #[.func (.func 86) #[] #[], .func (.func 86) #[] #[]] 41)
  have hc := kidsAre_any ko n kc g (some ⟨(w.alloc (.cells #[.int .i64 46, .string t, .int .i64 m, .slice so sn sc, .slice ao an ac, .slice ko n kc] 31)).heap.size, 0, none⟩) 2 [2, 2] _ ((h.below k0 (Nat.le_refl _)).below k1 (Nat.le_refl _)) (wq_lit (w.alloc (.cells #[.int .i64 46, .string t, .int .i64 m, .slice so sn sc, .slice ao an ac, .slice ko n kc] 31)) 41 [2, 2] (by decide) (by decide))
  rw [show (([2, 2] : List Nat).length) = 2 from rfl, World.size_alloc] at hc
  have k2 := k0.trans (k1.mono k0.size)
  generalize kaB [2, 2] n g = B at *
  go_enter Tryz.func59, Tryz.ntmps59
  go_wp2_with (go_at_call 85; (with_reducible refine hc.mono ?_); rintro e w6 ⟨rfl, b6⟩)
  go_ret
  exact ⟨rfl, k2.trans (b6.mono k2.size)⟩
set_option maxHeartbeats 4000000 in
theorem kidsFit_39 (t : ByteArray) (m : Int) (so ao ko : Option Addr) (sn sc an ac n kc : Nat) (g : Nat → Int × ByteArray) (w : World) (h : Kf w ko n g) :
    Calls Tryz.prog 59 #[.agg #[.int .i64 39, .string t, .int .i64 m, .slice so sn sc, .slice ao an ac, .slice ko n kc]] w fun e w' => e = .returned (.bool (kidB 39 n g)) ∧ Below w.heap.size w w' := by
  have k0 := box_below w (.cells #[.int .i64 39, .string t, .int .i64 m, .slice so sn sc, .slice ao an ac, .slice ko n kc] 31)
  obtain ⟨b0, b1, b2, b3, b4, b5⟩ := box6 (allocNew w (.cells #[.int .i64 39, .string t, .int .i64 m, .slice so sn sc, .slice ao an ac, .slice ko n kc] 31))
  rw [show kidB 39 n g = kaB [5, 2] n g from rfl]
  have k1 := box_below (w.alloc (.cells #[.int .i64 39, .string t, .int .i64 m, .slice so sn sc, .slice ao an ac, .slice ko n kc] 31)) (.cells #[.func (.func 92) #[] #[], .func (.func 86) #[] #[]] 41)
  have hc := kidsAre_any ko n kc g (some ⟨(w.alloc (.cells #[.int .i64 39, .string t, .int .i64 m, .slice so sn sc, .slice ao an ac, .slice ko n kc] 31)).heap.size, 0, none⟩) 2 [5, 2] _ ((h.below k0 (Nat.le_refl _)).below k1 (Nat.le_refl _)) (wq_lit (w.alloc (.cells #[.int .i64 39, .string t, .int .i64 m, .slice so sn sc, .slice ao an ac, .slice ko n kc] 31)) 41 [5, 2] (by decide) (by decide))
  rw [show (([5, 2] : List Nat).length) = 2 from rfl, World.size_alloc] at hc
  have k2 := k0.trans (k1.mono k0.size)
  generalize kaB [5, 2] n g = B at *
  go_enter Tryz.func59, Tryz.ntmps59
  go_wp2_with (go_at_call 85; (with_reducible refine hc.mono ?_); rintro e w6 ⟨rfl, b6⟩)
  go_ret
  exact ⟨rfl, k2.trans (b6.mono k2.size)⟩
set_option maxHeartbeats 4000000 in
theorem kidsFit_40 (t : ByteArray) (m : Int) (so ao ko : Option Addr) (sn sc an ac n kc : Nat) (g : Nat → Int × ByteArray) (w : World) (h : Kf w ko n g) :
    Calls Tryz.prog 59 #[.agg #[.int .i64 40, .string t, .int .i64 m, .slice so sn sc, .slice ao an ac, .slice ko n kc]] w fun e w' => e = .returned (.bool (kidB 40 n g)) ∧ Below w.heap.size w w' := by
  have k0 := box_below w (.cells #[.int .i64 40, .string t, .int .i64 m, .slice so sn sc, .slice ao an ac, .slice ko n kc] 31)
  obtain ⟨b0, b1, b2, b3, b4, b5⟩ := box6 (allocNew w (.cells #[.int .i64 40, .string t, .int .i64 m, .slice so sn sc, .slice ao an ac, .slice ko n kc] 31))
  rw [show kidB 40 n g = kaB [2, 5] n g from rfl]
  have k1 := box_below (w.alloc (.cells #[.int .i64 40, .string t, .int .i64 m, .slice so sn sc, .slice ao an ac, .slice ko n kc] 31)) (.cells #[.func (.func 86) #[] #[], .func (.func 92) #[] #[]] 41)
  have hc := kidsAre_any ko n kc g (some ⟨(w.alloc (.cells #[.int .i64 40, .string t, .int .i64 m, .slice so sn sc, .slice ao an ac, .slice ko n kc] 31)).heap.size, 0, none⟩) 2 [2, 5] _ ((h.below k0 (Nat.le_refl _)).below k1 (Nat.le_refl _)) (wq_lit (w.alloc (.cells #[.int .i64 40, .string t, .int .i64 m, .slice so sn sc, .slice ao an ac, .slice ko n kc] 31)) 41 [2, 5] (by decide) (by decide))
  rw [show (([2, 5] : List Nat).length) = 2 from rfl, World.size_alloc] at hc
  have k2 := k0.trans (k1.mono k0.size)
  generalize kaB [2, 5] n g = B at *
  go_enter Tryz.func59, Tryz.ntmps59
  go_wp2_with (go_at_call 85; (with_reducible refine hc.mono ?_); rintro e w6 ⟨rfl, b6⟩)
  go_ret
  exact ⟨rfl, k2.trans (b6.mono k2.size)⟩
set_option maxHeartbeats 4000000 in
theorem kidsFit_41 (t : ByteArray) (m : Int) (so ao ko : Option Addr) (sn sc an ac n kc : Nat) (g : Nat → Int × ByteArray) (w : World) (h : Kf w ko n g) :
    Calls Tryz.prog 59 #[.agg #[.int .i64 41, .string t, .int .i64 m, .slice so sn sc, .slice ao an ac, .slice ko n kc]] w fun e w' => e = .returned (.bool (kidB 41 n g)) ∧ Below w.heap.size w w' := by
  have k0 := box_below w (.cells #[.int .i64 41, .string t, .int .i64 m, .slice so sn sc, .slice ao an ac, .slice ko n kc] 31)
  obtain ⟨b0, b1, b2, b3, b4, b5⟩ := box6 (allocNew w (.cells #[.int .i64 41, .string t, .int .i64 m, .slice so sn sc, .slice ao an ac, .slice ko n kc] 31))
  rw [show kidB 41 n g = kaB [2, 5] n g from rfl]
  have k1 := box_below (w.alloc (.cells #[.int .i64 41, .string t, .int .i64 m, .slice so sn sc, .slice ao an ac, .slice ko n kc] 31)) (.cells #[.func (.func 86) #[] #[], .func (.func 92) #[] #[]] 41)
  have hc := kidsAre_any ko n kc g (some ⟨(w.alloc (.cells #[.int .i64 41, .string t, .int .i64 m, .slice so sn sc, .slice ao an ac, .slice ko n kc] 31)).heap.size, 0, none⟩) 2 [2, 5] _ ((h.below k0 (Nat.le_refl _)).below k1 (Nat.le_refl _)) (wq_lit (w.alloc (.cells #[.int .i64 41, .string t, .int .i64 m, .slice so sn sc, .slice ao an ac, .slice ko n kc] 31)) 41 [2, 5] (by decide) (by decide))
  rw [show (([2, 5] : List Nat).length) = 2 from rfl, World.size_alloc] at hc
  have k2 := k0.trans (k1.mono k0.size)
  generalize kaB [2, 5] n g = B at *
  go_enter Tryz.func59, Tryz.ntmps59
  go_wp2_with (go_at_call 85; (with_reducible refine hc.mono ?_); rintro e w6 ⟨rfl, b6⟩)
  go_ret
  exact ⟨rfl, k2.trans (b6.mono k2.size)⟩
set_option maxHeartbeats 4000000 in
theorem kidsFit_43 (t : ByteArray) (m : Int) (so ao ko : Option Addr) (sn sc an ac n kc : Nat) (g : Nat → Int × ByteArray) (w : World) (h : Kf w ko n g) :
    Calls Tryz.prog 59 #[.agg #[.int .i64 43, .string t, .int .i64 m, .slice so sn sc, .slice ao an ac, .slice ko n kc]] w fun e w' => e = .returned (.bool (kidB 43 n g)) ∧ Below w.heap.size w w' := by
  have k0 := box_below w (.cells #[.int .i64 43, .string t, .int .i64 m, .slice so sn sc, .slice ao an ac, .slice ko n kc] 31)
  obtain ⟨b0, b1, b2, b3, b4, b5⟩ := box6 (allocNew w (.cells #[.int .i64 43, .string t, .int .i64 m, .slice so sn sc, .slice ao an ac, .slice ko n kc] 31))
  rw [show kidB 43 n g = (decide (2 ≤ n) && (decide (n ≤ 17) && kallB 2 n g)) from rfl]
  have hc := areArms_any 2 (by decide) (by decide) ko n kc g _ (h.below k0 (Nat.le_refl _))
  rw [show fv 2 = .func (.func 86) #[] #[] from rfl] at hc
  generalize (decide (2 ≤ n) && (decide (n ≤ 17) && kallB 2 n g)) = B at *
  go_enter Tryz.func59, Tryz.ntmps59
  go_wp2_with (go_at_call 88; (with_reducible refine hc.mono ?_); rintro e w6 ⟨rfl, b6⟩)
  go_ret
  exact ⟨rfl, k0.trans (b6.mono k0.size)⟩
set_option maxHeartbeats 4000000 in
theorem kidsFit_45 (t : ByteArray) (m : Int) (so ao ko : Option Addr) (sn sc an ac n kc : Nat) (g : Nat → Int × ByteArray) (w : World) (h : Kf w ko n g) :
    Calls Tryz.prog 59 #[.agg #[.int .i64 45, .string t, .int .i64 m, .slice so sn sc, .slice ao an ac, .slice ko n kc]] w fun e w' => e = .returned (.bool (kidB 45 n g)) ∧ Below w.heap.size w w' := by
  have k0 := box_below w (.cells #[.int .i64 45, .string t, .int .i64 m, .slice so sn sc, .slice ao an ac, .slice ko n kc] 31)
  obtain ⟨b0, b1, b2, b3, b4, b5⟩ := box6 (allocNew w (.cells #[.int .i64 45, .string t, .int .i64 m, .slice so sn sc, .slice ao an ac, .slice ko n kc] 31))
  rw [show kidB 45 n g = kaB [2, 2, 2] n g from rfl]
  have k1 := box_below (w.alloc (.cells #[.int .i64 45, .string t, .int .i64 m, .slice so sn sc, .slice ao an ac, .slice ko n kc] 31)) (.cells #[.func (.func 86) #[] #[], .func (.func 86) #[] #[], .func (.func 86) #[] #[]] 41)
  have hc := kidsAre_any ko n kc g (some ⟨(w.alloc (.cells #[.int .i64 45, .string t, .int .i64 m, .slice so sn sc, .slice ao an ac, .slice ko n kc] 31)).heap.size, 0, none⟩) 3 [2, 2, 2] _ ((h.below k0 (Nat.le_refl _)).below k1 (Nat.le_refl _)) (wq_lit (w.alloc (.cells #[.int .i64 45, .string t, .int .i64 m, .slice so sn sc, .slice ao an ac, .slice ko n kc] 31)) 41 [2, 2, 2] (by decide) (by decide))
  rw [show (([2, 2, 2] : List Nat).length) = 3 from rfl, World.size_alloc] at hc
  have k2 := k0.trans (k1.mono k0.size)
  generalize kaB [2, 2, 2] n g = B at *
  go_enter Tryz.func59, Tryz.ntmps59
  go_wp2_with (go_at_call 85; (with_reducible refine hc.mono ?_); rintro e w6 ⟨rfl, b6⟩)
  go_ret
  exact ⟨rfl, k2.trans (b6.mono k2.size)⟩
end Go.Proofs.YtiahilelcppfgaaGreat
