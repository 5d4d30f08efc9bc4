
/- Package term: kidsFit. -/

import Derived.Test.YtiahilelcppfgaaGreatTH0

namespace Go.Proofs.YtiahilelcppfgaaGreat

open Go.RowKit

set_option linter.unusedVariables false

set_option maxHeartbeats 4000000 in
theorem kidsFit_42 (t : ByteArray) (m : Int) (so ao ko : Option Addr) (sn sc an ac n kc : Nat) (g : Nat → Int × ByteArray) (w : World) (h : Kf w ko n g) :
    Calls Tryz.prog 59 #[.agg #[.int .i64 42, .string t, .int .i64 m, .slice so sn sc, .slice ao an ac, .slice ko n kc]] w fun e w' => e = .returned (.bool (kidB 42 n g)) ∧ Below w.heap.size w w' := by
  have k0 := box_below w (.cells #[.int .i64 42, .string t, .int .i64 m, .slice so sn sc, .slice ao an ac, .slice ko n kc] 31)
  obtain ⟨b0, b1, b2, b3, b4, b5⟩ := box6 (allocNew w (.cells #[.int .i64 42, .string t, .int .i64 m, .slice so sn sc, .slice ao an ac, .slice ko n kc] 31))
  rw [show kidB 42 n g = kaB [2] n g from rfl]
  have k1 := box_below (w.alloc (.cells #[.int .i64 42, .string t, .int .i64 m, .slice so sn sc, .slice ao an ac, .slice ko n kc] 31)) (.cells #[.func (.func 86) #[] #[]] 41)
  have hc := kidsAre_any ko n kc g (some ⟨(w.alloc (.cells #[.int .i64 42, .string t, .int .i64 m, .slice so sn sc, .slice ao an ac, .slice ko n kc] 31)).heap.size, 0, none⟩) 1 [2] _ ((h.below k0 (Nat.le_refl _)).below k1 (Nat.le_refl _)) (wq_lit (w.alloc (.cells #[.int .i64 42, .string t, .int .i64 m, .slice so sn sc, .slice ao an ac, .slice ko n kc] 31)) 41 [2] (by decide) (by decide))
  rw [show (([2] : List Nat).length) = 1 from rfl, World.size_alloc] at hc
  have k2 := k0.trans (k1.mono k0.size)
  generalize kaB [2] n g = B at *
  go_enter Tryz.func59, Tryz.ntmps59
  go_wp2_with (go_at_call 85; (with_reducible refine hc.mono ?_); rintro e w6 ⟨rfl, b6⟩)
  go_ret
  exact ⟨rfl, k2.trans (b6.mono k2.size)⟩
set_option maxHeartbeats 4000000 in
theorem kidsFit_28 (t : ByteArray) (m : Int) (so ao ko : Option Addr) (sn sc an ac n kc : Nat) (g : Nat → Int × ByteArray) (w : World) (h : Kf w ko n g) :
    Calls Tryz.prog 59 #[.agg #[.int .i64 28, .string t, .int .i64 m, .slice so sn sc, .slice ao an ac, .slice ko n kc]] w fun e w' => e = .returned (.bool (kidB 28 n g)) ∧ Below w.heap.size w w' := by
  have k0 := box_below w (.cells #[.int .i64 28, .string t, .int .i64 m, .slice so sn sc, .slice ao an ac, .slice ko n kc] 31)
  obtain ⟨b0, b1, b2, b3, b4, b5⟩ := box6 (allocNew w (.cells #[.int .i64 28, .string t, .int .i64 m, .slice so sn sc, .slice ao an ac, .slice ko n kc] 31))
  rw [show kidB 28 n g = kaB [2, 2] n g from rfl]
  have k1 := box_below (w.alloc (.cells #[.int .i64 28, .string t, .int .i64 m, .slice so sn sc, .slice ao an ac, .slice ko n kc] 31)) (.cells #[.func (.func 86) #[] #[], .func (.func 86) #[] #[]] 41)
  have hc := kidsAre_any ko n kc g (some ⟨(w.alloc (.cells #[.int .i64 28, .string t, .int .i64 m, .slice so sn sc, .slice ao an ac, .slice ko n kc] 31)).heap.size, 0, none⟩) 2 [2, 2] _ ((h.below k0 (Nat.le_refl _)).below k1 (Nat.le_refl _)) (wq_lit (w.alloc (.cells #[.int .i64 28, .string t, .int .i64 m, .slice so sn sc, .slice ao an ac, .slice ko n kc] 31)) 41 [2, 2] (by decide) (by decide))
  rw [show (([2, 2] : List Nat).length) = 2 from rfl, World.size_alloc] at hc
  have k2 := k0.trans (k1.mono k0.size)
  generalize kaB [2, 2] n g = B at *
  go_enter Tryz.func59, Tryz.ntmps59
  go_wp2_with (go_at_call 85; (with_reducible refine hc.mono ?_); rintro e w6 ⟨rfl, b6⟩)
  go_ret
  exact ⟨rfl, k2.trans (b6.mono k2.size)⟩
set_option maxHeartbeats 4000000 in
theorem kidsFit_29 (t : ByteArray) (m : Int) (so ao ko : Option Addr) (sn sc an ac n kc : Nat) (g : Nat → Int × ByteArray) (w : World) (h : Kf w ko n g) :
    Calls Tryz.prog 59 #[.agg #[.int .i64 29, .string t, .int .i64 m, .slice so sn sc, .slice ao an ac, .slice ko n kc]] w fun e w' => e = .returned (.bool (kidB 29 n g)) ∧ Below w.heap.size w w' := by
  have k0 := box_below w (.cells #[.int .i64 29, .string t, .int .i64 m, .slice so sn sc, .slice ao an ac, .slice ko n kc] 31)
  obtain ⟨b0, b1, b2, b3, b4, b5⟩ := box6 (allocNew w (.cells #[.int .i64 29, .string t, .int .i64 m, .slice so sn sc, .slice ao an ac, .slice ko n kc] 31))
  rw [show kidB 29 n g = kaB [2, 2] n g from rfl]
  have k1 := box_below (w.alloc (.cells #[.int .i64 29, .string t, .int .i64 m, .slice so sn sc, .slice ao an ac, .slice ko n kc] 31)) (.cells #[.func (.func 86) #[] #[], .func (.func 86) #[] #[]] 41)
  have hc := kidsAre_any ko n kc g (some ⟨(w.alloc (.cells #[.int .i64 29, .string t, .int .i64 m, .slice so sn sc, .slice ao an ac, .slice ko n kc] 31)).heap.size, 0, none⟩) 2 [2, 2] _ ((h.below k0 (Nat.le_refl _)).below k1 (Nat.le_refl _)) (wq_lit (w.alloc (.cells #[.int .i64 29, .string t, .int .i64 m, .slice so sn sc, .slice ao an ac, .slice ko n kc] 31)) 41 [2, 2] (by decide) (by decide))
  rw [show (([2, 2] : List Nat).length) = 2 from rfl, World.size_alloc] at hc
  have k2 := k0.trans (k1.mono k0.size)
  generalize kaB [2, 2] n g = B at *
  go_enter Tryz.func59, Tryz.ntmps59
  go_wp2_with (go_at_call 85; (with_reducible refine hc.mono ?_); rintro e w6 ⟨rfl, b6⟩)
  go_ret
  exact ⟨rfl, k2.trans (b6.mono k2.size)⟩
set_option maxHeartbeats 4000000 in
theorem kidsFit_30 (t : ByteArray) (m : Int) (so ao ko : Option Addr) (sn sc an ac n kc : Nat) (g : Nat → Int × ByteArray) (w : World) (h : Kf w ko n g) :
    Calls Tryz.prog 59 #[.agg #[.int .i64 30, .string t, .int .i64 m, .slice so sn sc, .slice ao an ac, .slice ko n kc]] w fun e w' => e = .returned (.bool (kidB 30 n g)) ∧ Below w.heap.size w w' := by
  have k0 := box_below w (.cells #[.int .i64 30, .string t, .int .i64 m, .slice so sn sc, .slice ao an ac, .slice ko n kc] 31)
  obtain ⟨b0, b1, b2, b3, b4, b5⟩ := box6 (allocNew w (.cells #[.int .i64 30, .string t, .int .i64 m, .slice so sn sc, .slice ao an ac, .slice ko n kc] 31))
  rw [show kidB 30 n g = kaB [2, 2] n g from rfl]
  have k1 := box_below (w.alloc (.cells #[.int .i64 30, .string t, .int .i64 m, .slice so sn sc, .slice ao an ac, .slice ko n kc] 31)) (.cells #[.func (.func 86) #[] #[], .func (.func 86) #[] #[]] 41)
  have hc := kidsAre_any ko n kc g (some ⟨(w.alloc (.cells #[.int .i64 30, .string t, .int .i64 m, .slice so sn sc, .slice ao an ac, .slice ko n kc] 31)).heap.size, 0, none⟩) 2 [2, 2] _ ((h.below k0 (Nat.le_refl _)).below k1 (Nat.le_refl _)) (wq_lit (w.alloc (.cells #[.int .i64 30, .string t, .int .i64 m, .slice so sn sc, .slice ao an ac, .slice ko n kc] 31)) 41 [2, 2] (by decide) (by decide))
  rw [show (([2, 2] : List Nat).length) = 2 from rfl, World.size_alloc] at hc
  have k2 := k0.trans (k1.mono k0.size)
  generalize kaB [2, 2] n g = B at *
  go_enter Tryz.func59, Tryz.ntmps59
  go_wp2_with (go_at_call 85; (with_reducible refine hc.mono ?_); rintro e w6 ⟨rfl, b6⟩)
  go_ret
  exact ⟨rfl, k2.trans (b6.mono k2.size)⟩
set_option maxHeartbeats 4000000 in
theorem kidsFit_31 (t : ByteArray) (m : Int) (so ao ko : Option Addr) (sn sc an ac n kc : Nat) (g : Nat → Int × ByteArray) (w : World) (h : Kf w ko n g) :
    Calls Tryz.prog 59 #[.agg #[.int .i64 31, .string t, .int .i64 m, .slice so sn sc, .slice ao an ac, .slice ko n kc]] w fun e w' => e = .returned (.bool (kidB 31 n g)) ∧ Below w.heap.size w w' := by
  have k0 := box_below w (.cells #[.int .i64 31, .string t, .int .i64 m, .slice so sn sc, .slice ao an ac, .slice ko n kc] 31)
  obtain ⟨b0, b1, b2, b3, b4, b5⟩ := box6 (allocNew w (.cells #[.int .i64 31, .string t, .int .i64 m, .slice so sn sc, .slice ao an ac, .slice ko n kc] 31))
  rw [show kidB 31 n g = kaB [2, 2] n g from rfl]
  have k1 := box_below (w.alloc (.cells #[.int .i64 31, .string t, .int .i64 m, .slice so sn sc, .slice ao an ac, .slice ko n kc] 31)) (.cells #[.func (.func 86) #[] #[], .func (.func 86) #[] #[]] 41)
  have hc := kidsAre_any ko n kc g (some ⟨(w.alloc (.cells #[.int .i64 31, .string t, .int .i64 m, .slice so sn sc, .slice ao an ac, .slice ko n kc] 31)).heap.size, 0, none⟩) 2 [2, 2] _ ((h.below k0 (Nat.le_refl _)).below k1 (Nat.le_refl _)) (wq_lit (w.alloc (.cells #[.int .i64 31, .string t, .int .i64 m, .slice so sn sc, .slice ao an ac, .slice ko n kc] 31)) 41 [2, 2] (by decide) (by decide))
  rw [show (([2, 2] : List Nat).length) = 2 from rfl, World.size_alloc] at hc
  have k2 := k0.trans (k1.mono k0.size)
  generalize kaB [2, 2] n g = B at *
  go_enter Tryz.func59, Tryz.ntmps59
  go_wp2_with (go_at_call 85; (with_reducible refine hc.mono ?_); rintro e w6 ⟨rfl, b6⟩)
  go_ret
  exact ⟨rfl, k2.trans (b6.mono k2.size)⟩
set_option maxHeartbeats 4000000 in
theorem kidsFit_32 (t : ByteArray) (m : Int) (so ao ko : Option Addr) (sn sc an ac n kc : Nat) (g : Nat → Int × ByteArray) (w : World) (h : Kf w ko n g) :
    Calls Tryz.prog 59 #[.agg #[.int .i64 32, .string t, .int .i64 m, .slice so sn sc, .slice ao an ac, .slice ko n kc]] w fun e w' => e = .returned (.bool (kidB 32 n g)) ∧ Below w.heap.size w w' := by
  have k0 := box_below w (.cells #[.int .i64 32, .string t, .int .i64 m, .slice so sn sc, .slice ao an ac, .slice ko n kc] 31)
  obtain ⟨b0, b1, b2, b3, b4, b5⟩ := box6 (allocNew w (.cells #[.int .i64 32, .string t, .int .i64 m, .slice so sn sc, .slice ao an ac, .slice ko n kc] 31))
  rw [show kidB 32 n g = kaB [2, 2] n g from rfl]
  have k1 := box_below (w.alloc (.cells #[.int .i64 32, .string t, .int .i64 m, .slice so sn sc, .slice ao an ac, .slice ko n kc] 31)) (.cells #[.func (.func 86) #[] #[], .func (.func 86) #[] #[]] 41)
  have hc := kidsAre_any ko n kc g (some ⟨(w.alloc (.cells #[.int .i64 32, .string t, .int .i64 m, .slice so sn sc, .slice ao an ac, .slice ko n kc] 31)).heap.size, 0, none⟩) 2 [2, 2] _ ((h.below k0 (Nat.le_refl _)).below k1 (Nat.le_refl _)) (wq_lit (w.alloc (.cells #[.int .i64 32, .string t, .int .i64 m, .slice so sn sc, .slice ao an ac, .slice ko n kc] 31)) 41 [2, 2] (by decide) (by decide))
  rw [show (([2, 2] : List Nat).length) = 2 from rfl, World.size_alloc] at hc
  have k2 := k0.trans (k1.mono k0.size)
  generalize kaB [2, 2] n g = B at *
  go_enter Tryz.func59, Tryz.ntmps59
  go_wp2_with (go_at_call 85; (with_reducible refine hc.mono ?_); rintro e w6 ⟨rfl, b6⟩)
  go_ret
  exact ⟨rfl, k2.trans (b6.mono k2.size)⟩
set_option maxHeartbeats 4000000 in
theorem kidsFit_33 (t : ByteArray) (m : Int) (so ao ko : Option Addr) (sn sc an ac n kc : Nat) (g : Nat → Int × ByteArray) (w : World) (h : Kf w ko n g) :
    Calls Tryz.prog 59 #[.agg #[.int .i64 33, .string t, .int .i64 m, .slice so sn sc, .slice ao an ac, .slice ko n kc]] w fun e w' => e = .returned (.bool (kidB 33 n g)) ∧ Below w.heap.size w w' := by
  have k0 := box_below w (.cells #[.int .i64 33, .string t, .int .i64 m, .slice so sn sc, .slice ao an ac, .slice ko n kc] 31)
  obtain ⟨b0, b1, b2, b3, b4, b5⟩ := box6 (allocNew w (.cells #[.int .i64 33, .string t, .int .i64 m, .slice so sn sc, .slice ao an ac, .slice ko n kc] 31))
  rw [show kidB 33 n g = kaB [2, 2] n g from rfl]
  have k1 := box_below (w.alloc (.cells #[.int .i64 33, .string t, .int .i64 m, .slice so sn sc, .slice ao an ac, .slice ko n kc] 31)) (.cells #[.func (.func 86) #[] #[], .func (.func 86) #[] #[]] 41)
  have hc := kidsAre_any ko n kc g (some ⟨(w.alloc (.cells #[.int .i64 33, .string t, .int .i64 m, .slice so sn sc, .slice ao an ac, .slice ko n kc] 31)).heap.size, 0, none⟩) 2 [2, 2] _ ((h.below k0 (Nat.le_refl _)).below k1 (Nat.le_refl _)) (wq_lit (w.alloc (.cells #[.int .i64 33, .string t, .int .i64 m, .slice so sn sc, .slice ao an ac, .slice ko n kc] 31)) 41 [2, 2] (by decide) (by decide))
  rw [show (([2, 2] : List Nat).length) = 2 from rfl, World.size_alloc] at hc
  have k2 := k0.trans (k1.mono k0.size)
  generalize kaB [2, 2] n g = B at *
  go_enter Tryz.func59, Tryz.ntmps59
  go_wp2_with (go_at_call 85; (with_reducible refine hc.mono ?_); rintro e w6 ⟨rfl, b6⟩)
  go_ret
  exact ⟨rfl, k2.trans (b6.mono k2.size)⟩
set_option maxHeartbeats 4000000 in
theorem kidsFit_34 (t : ByteArray) (m : Int) (so ao ko : Option Addr) (sn sc an ac n kc : Nat) (g : Nat → Int × ByteArray) (w : World) (h : Kf w ko n g) :
    Calls Tryz.prog 59 #[.agg #[.int .i64 34, .string t, .int .i64 m, .slice so sn sc, .slice ao an ac, .slice ko n kc]] w fun e w' => e = .returned (.bool (kidB 34 n g)) ∧ Below w.heap.size w w' := by
  have k0 := box_below w (.cells #[.int .i64 34, .string t, .int .i64 m, .slice so sn sc, .slice ao an ac, .slice ko n kc] 31)
  obtain ⟨b0, b1, b2, b3, b4, b5⟩ := box6 (allocNew w (.cells #[.int .i64 34, .string t, .int .i64 m, .slice so sn sc, .slice ao an ac, .slice ko n kc] 31))
  rw [show kidB 34 n g = kaB [2, 2] n g from rfl]
  have k1 := box_below (w.alloc (.cells #[.int .i64 34, .string t, .int .i64 m, .slice so sn sc, .slice ao an ac, .slice ko n kc] 31)) (.cells #[.func (.func 86) #[] #[], .func (.func 86) #[] #[]] 41)
  have hc := kidsAre_any ko n kc g (some ⟨(w.alloc (.cells #[.int .i64 34, .string t, .int .i64 m, .slice so sn sc, .slice ao an ac, .slice ko n kc] 31)).heap.size, 0, none⟩) 2 [2, 2] _ ((h.below k0 (Nat.le_refl _)).below k1 (Nat.le_refl _)) (wq_lit (w.alloc (.cells #[.int .i64 34, .string t, .int .i64 m, .slice so sn sc, .slice ao an ac, .slice ko n kc] 31)) 41 [2, 2] (by decide) (by decide))
  rw [show (([2, 2] : List Nat).length) = 2 from rfl, World.size_alloc] at hc
  have k2 := k0.trans (k1.mono k0.size)
  generalize kaB [2, 2] n g = B at *
  go_enter Tryz.func59, Tryz.ntmps59
  go_wp2_with (go_at_call 85; (with_reducible refine hc.mono ?_); rintro e w6 ⟨rfl, b6⟩)
  go_ret
  exact ⟨rfl, k2.trans (b6.mono k2.size)⟩
set_option maxHeartbeats 4000000 in
theorem kidsFit_35 (t : ByteArray) (m : Int) (so ao ko : Option Addr) (sn sc an ac n kc : Nat) (g : Nat → Int × ByteArray) (w : World) (h : Kf w ko n g) :
    Calls Tryz.prog 59 #[.agg #[.int .i64 35, .string t, .int .i64 m, .slice so sn sc, .slice ao an ac, .slice ko n kc]] w fun e w' => e = .returned (.bool (kidB 35 n g)) ∧ Below w.heap.size w w' := by
  have k0 := box_below w (.cells #[.int .i64 35, .string t, .int .i64 m, .slice so sn sc, .slice ao an ac, .slice ko n kc] 31)
  obtain ⟨b0, b1, b2, b3, b4, b5⟩ := box6 (allocNew w (.cells #[.int .i64 35, .string t, .int .i64 m, .slice so sn sc, .slice ao an ac, .slice ko n kc] 31))
  rw [show kidB 35 n g = kaB [2, 2] n g from rfl]
  have k1 := box_below (w.alloc (.cells #[.int .i64 35, .string t, .int .i64 m, .slice so sn sc, .slice ao an ac, .slice ko n kc] 31)) (.cells #[.func (.func 86) #[] #[], .func (.func 86) #[] #[]] 41)
  have hc := kidsAre_any ko n kc g (some ⟨(w.alloc (.cells #[.int .i64 35, .string t, .int .i64 m, .slice so sn sc, .slice ao an ac, .slice ko n kc] 31)).heap.size, 0, none⟩) 2 [2, 2] _ ((h.below k0 (Nat.le_refl _)).below k1 (Nat.le_refl _)) (wq_lit (w.alloc (.cells #[.int .i64 35, .string t, .int .i64 m, .slice so sn sc, .slice ao an ac, .slice ko n kc] 31)) 41 [2, 2] (by decide) (by decide))
  rw [show (([2, 2] : List Nat).length) = 2 from rfl, World.size_alloc] at hc
  have k2 := k0.trans (k1.mono k0.size)
  generalize kaB [2, 2] n g = B at *
  go_enter Tryz.func59, Tryz.ntmps59
  go_wp2_with (go_at_call 85; (with_reducible refine hc.mono ?_); rintro e w6 ⟨rfl, b6⟩)
  go_ret
  exact ⟨rfl, k2.trans (b6.mono k2.size)⟩
end Go.Proofs.YtiahilelcppfgaaGreat
