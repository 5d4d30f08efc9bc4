
/- Package term: kidsFit. -/

import Derived.Test.YtiahilelcppfgaaGreatTH

namespace Go.Proofs.YtiahilelcppfgaaGreat

open Go.RowKit

set_option linter.unusedVariables false

set_option maxHeartbeats 4000000 in
theorem kidsFit_1 (t : ByteArray) (m : Int) (so ao ko : Option Addr) (sn sc an ac n kc : Nat) (g : Nat → Int × ByteArray) (w : World) (h : Kf w ko n g) :
    Calls Tryz.prog 59 #[.agg #[.int .i64 1, .string t, .int .i64 m, .slice so sn sc, .slice ao an ac, .slice ko n kc]] w fun e w' => e = .returned (.bool (kidB 1 n g)) ∧ Below w.heap.size w w' := by
  have k0 := box_below w (.cells #[.int .i64 1, .string t, .int .i64 m, .slice so sn sc, .slice ao an ac, .slice ko n kc] 31)
  obtain ⟨b0, b1, b2, b3, b4, b5⟩ := box6 (allocNew w (.cells #[.int .i64 1, .string t, .int .i64 m, .slice so sn sc, .slice ao an ac, .slice ko n kc] 31))
  rw [show kidB 1 n g = kaB [] n g from rfl]
  have hc := kidsAre_any ko n kc g none 0 [] _ (h.below k0 (Nat.le_refl _)) (wq_nil _)
  rw [show ([] : List Nat).length = 0 from rfl] at hc
  generalize kaB [] n g = B at *
  go_enter Tryz.func59, Tryz.ntmps59
  go_wp2_with (go_at_call 85; (with_reducible refine hc.mono ?_); rintro e w6 ⟨rfl, b6⟩)
  go_ret
  exact ⟨rfl, k0.trans (b6.mono k0.size)⟩
set_option maxHeartbeats 4000000 in
theorem kidsFit_2 (t : ByteArray) (m : Int) (so ao ko : Option Addr) (sn sc an ac n kc : Nat) (g : Nat → Int × ByteArray) (w : World) (h : Kf w ko n g) :
    Calls Tryz.prog 59 #[.agg #[.int .i64 2, .string t, .int .i64 m, .slice so sn sc, .slice ao an ac, .slice ko n kc]] w fun e w' => e = .returned (.bool (kidB 2 n g)) ∧ Below w.heap.size w w' := by
  have k0 := box_below w (.cells #[.int .i64 2, .string t, .int .i64 m, .slice so sn sc, .slice ao an ac, .slice ko n kc] 31)
  obtain ⟨b0, b1, b2, b3, b4, b5⟩ := box6 (allocNew w (.cells #[.int .i64 2, .string t, .int .i64 m, .slice so sn sc, .slice ao an ac, .slice ko n kc] 31))
  rw [show kidB 2 n g = kaB [] n g from rfl]
  have hc := kidsAre_any ko n kc g none 0 [] _ (h.below k0 (Nat.le_refl _)) (wq_nil _)
  rw [show ([] : List Nat).length = 0 from rfl] at hc
  generalize kaB [] n g = B at *
  go_enter Tryz.func59, Tryz.ntmps59
  go_wp2_with (go_at_call 85; (with_reducible refine hc.mono ?_); rintro e w6 ⟨rfl, b6⟩)
  go_ret
  exact ⟨rfl, k0.trans (b6.mono k0.size)⟩
set_option maxHeartbeats 4000000 in
theorem kidsFit_20 (t : ByteArray) (m : Int) (so ao ko : Option Addr) (sn sc an ac n kc : Nat) (g : Nat → Int × ByteArray) (w : World) (h : Kf w ko n g) :
    Calls Tryz.prog 59 #[.agg #[.int .i64 20, .string t, .int .i64 m, .slice so sn sc, .slice ao an ac, .slice ko n kc]] w fun e w' => e = .returned (.bool (kidB 20 n g)) ∧ Below w.heap.size w w' := by
  have k0 := box_below w (.cells #[.int .i64 20, .string t, .int .i64 m, .slice so sn sc, .slice ao an ac, .slice ko n kc] 31)
  obtain ⟨b0, b1, b2, b3, b4, b5⟩ := box6 (allocNew w (.cells #[.int .i64 20, .string t, .int .i64 m, .slice so sn sc, .slice ao an ac, .slice ko n kc] 31))
  rw [show kidB 20 n g = kaB [] n g from rfl]
  have hc := kidsAre_any ko n kc g none 0 [] _ (h.below k0 (Nat.le_refl _)) (wq_nil _)
  rw [show ([] : List Nat).length = 0 from rfl] at hc
  generalize kaB [] n g = B at *
  go_enter Tryz.func59, Tryz.ntmps59
  go_wp2_with (go_at_call 85; (with_reducible refine hc.mono ?_); rintro e w6 ⟨rfl, b6⟩)
  go_ret
  exact ⟨rfl, k0.trans (b6.mono k0.size)⟩
set_option maxHeartbeats 4000000 in
theorem kidsFit_21 (t : ByteArray) (m : Int) (so ao ko : Option Addr) (sn sc an ac n kc : Nat) (g : Nat → Int × ByteArray) (w : World) (h : Kf w ko n g) :
    Calls Tryz.prog 59 #[.agg #[.int .i64 21, .string t, .int .i64 m, .slice so sn sc, .slice ao an ac, .slice ko n kc]] w fun e w' => e = .returned (.bool (kidB 21 n g)) ∧ Below w.heap.size w w' := by
  have k0 := box_below w (.cells #[.int .i64 21, .string t, .int .i64 m, .slice so sn sc, .slice ao an ac, .slice ko n kc] 31)
  obtain ⟨b0, b1, b2, b3, b4, b5⟩ := box6 (allocNew w (.cells #[.int .i64 21, .string t, .int .i64 m, .slice so sn sc, .slice ao an ac, .slice ko n kc] 31))
  rw [show kidB 21 n g = kaB [] n g from rfl]
  have hc := kidsAre_any ko n kc g none 0 [] _ (h.below k0 (Nat.le_refl _)) (wq_nil _)
  rw [show ([] : List Nat).length = 0 from rfl] at hc
  generalize kaB [] n g = B at *
  go_enter Tryz.func59, Tryz.ntmps59
  go_wp2_with (go_at_call 85; (with_reducible refine hc.mono ?_); rintro e w6 ⟨rfl, b6⟩)
  go_ret
  exact ⟨rfl, k0.trans (b6.mono k0.size)⟩
set_option maxHeartbeats 4000000 in
theorem kidsFit_3 (t : ByteArray) (m : Int) (so ao ko : Option Addr) (sn sc an ac n kc : Nat) (g : Nat → Int × ByteArray) (w : World) (h : Kf w ko n g) :
    Calls Tryz.prog 59 #[.agg #[.int .i64 3, .string t, .int .i64 m, .slice so sn sc, .slice ao an ac, .slice ko n kc]] w fun e w' => e = .returned (.bool (kidB 3 n g)) ∧ Below w.heap.size w w' := by
  have k0 := box_below w (.cells #[.int .i64 3, .string t, .int .i64 m, .slice so sn sc, .slice ao an ac, .slice ko n kc] 31)
  obtain ⟨b0, b1, b2, b3, b4, b5⟩ := box6 (allocNew w (.cells #[.int .i64 3, .string t, .int .i64 m, .slice so sn sc, .slice ao an ac, .slice ko n kc] 31))
  rw [show kidB 3 n g = kaB [2, 1] n g from rfl]
  have k1 := box_below (w.alloc (.cells #[.int .i64 3, .string t, .int .i64 m, .slice so sn sc, .slice ao an ac, .slice ko n kc] 31)) (.cells #[.func (.func 86) #[] #[], .func (.func 87) #[] #[]] 41)
  have hc := kidsAre_any ko n kc g (some ⟨(w.alloc (.cells #[.int .i64 3, .string t, .int .i64 m, .slice so sn sc, .slice ao an ac, .slice ko n kc] 31)).heap.size, 0, none⟩) 2 [2, 1] _ ((h.below k0 (Nat.le_refl _)).below k1 (Nat.le_refl _)) (wq_lit (w.alloc (.cells #[.int .i64 3, .string t, .int .i64 m, .slice so sn sc, .slice ao an ac, .slice ko n kc] 31)) 41 [2, 1] (by decide) (by decide))
  rw [show (([2, 1] : List Nat).length) = 2 from rfl, World.size_alloc] at hc
  have k2 := k0.trans (k1.mono k0.size)
  generalize kaB [2, 1] n g = B at *
  go_enter Tryz.func59, Tryz.ntmps59
  go_wp2_with (go_at_call 85; (with_reducible refine hc.mono ?_); rintro e w6 ⟨rfl, b6⟩)
  go_ret
  exact ⟨rfl, k2.trans (b6.mono k2.size)⟩
set_option maxHeartbeats 4000000 in
theorem kidsFit_4 (t : ByteArray) (m : Int) (so ao ko : Option Addr) (sn sc an ac n kc : Nat) (g : Nat → Int × ByteArray) (w : World) (h : Kf w ko n g) :
    Calls Tryz.prog 59 #[.agg #[.int .i64 4, .string t, .int .i64 m, .slice so sn sc, .slice ao an ac, .slice ko n kc]] w fun e w' => e = .returned (.bool (kidB 4 n g)) ∧ Below w.heap.size w w' := by
  have k0 := box_below w (.cells #[.int .i64 4, .string t, .int .i64 m, .slice so sn sc, .slice ao an ac, .slice ko n kc] 31)
  obtain ⟨b0, b1, b2, b3, b4, b5⟩ := box6 (allocNew w (.cells #[.int .i64 4, .string t, .int .i64 m, .slice so sn sc, .slice ao an ac, .slice ko n kc] 31))
  rw [show kidB 4 n g = kaB [2, 1, 1] n g from rfl]
  have k1 := box_below (w.alloc (.cells #[.int .i64 4, .string t, .int .i64 m, .slice so sn sc, .slice ao an ac, .slice ko n kc] 31)) (.cells #[.func (.func 86) #[] #[], .func (.func 87) #[] #[], .func (.func 87) #[] #[]] 41)
  have hc := kidsAre_any ko n kc g (some ⟨(w.alloc (.cells #[.int .i64 4, .string t, .int .i64 m, .slice so sn sc, .slice ao an ac, .slice ko n kc] 31)).heap.size, 0, none⟩) 3 [2, 1, 1] _ ((h.below k0 (Nat.le_refl _)).below k1 (Nat.le_refl _)) (wq_lit (w.alloc (.cells #[.int .i64 4, .string t, .int .i64 m, .slice so sn sc, .slice ao an ac, .slice ko n kc] 31)) 41 [2, 1, 1] (by decide) (by decide))
  rw [show (([2, 1, 1] : List Nat).length) = 3 from rfl, World.size_alloc] at hc
  have k2 := k0.trans (k1.mono k0.size)
  generalize kaB [2, 1, 1] n g = B at *
  go_enter Tryz.func59, Tryz.ntmps59
  go_wp2_with (go_at_call 85; (with_reducible refine hc.mono ?_); rintro e w6 ⟨rfl, b6⟩)
  go_ret
  exact ⟨rfl, k2.trans (b6.mono k2.size)⟩
set_option maxHeartbeats 4000000 in
theorem kidsFit_5 (t : ByteArray) (m : Int) (so ao ko : Option Addr) (sn sc an ac n kc : Nat) (g : Nat → Int × ByteArray) (w : World) (h : Kf w ko n g) :
    Calls Tryz.prog 59 #[.agg #[.int .i64 5, .string t, .int .i64 m, .slice so sn sc, .slice ao an ac, .slice ko n kc]] w fun e w' => e = .returned (.bool (kidB 5 n g)) ∧ Below w.heap.size w w' := by
  have k0 := box_below w (.cells #[.int .i64 5, .string t, .int .i64 m, .slice so sn sc, .slice ao an ac, .slice ko n kc] 31)
  obtain ⟨b0, b1, b2, b3, b4, b5⟩ := box6 (allocNew w (.cells #[.int .i64 5, .string t, .int .i64 m, .slice so sn sc, .slice ao an ac, .slice ko n kc] 31))
  rw [show kidB 5 n g = (decide (2 ≤ n) && (decide (n ≤ 17) && kallB 1 n g)) from rfl]
  have hc := areArms_any 1 (by decide) (by decide) ko n kc g _ (h.below k0 (Nat.le_refl _))
  rw [show fv 1 = .func (.func 87) #[] #[] from rfl] at hc
  generalize (decide (2 ≤ n) && (decide (n ≤ 17) && kallB 1 n g)) = B at *
  go_enter Tryz.func59, Tryz.ntmps59
  go_wp2_with (go_at_call 88; (with_reducible refine hc.mono ?_); rintro e w6 ⟨rfl, b6⟩)
  go_ret
  exact ⟨rfl, k0.trans (b6.mono k0.size)⟩
set_option maxHeartbeats 4000000 in
theorem kidsFit_10 (t : ByteArray) (m : Int) (so ao ko : Option Addr) (sn sc an ac n kc : Nat) (g : Nat → Int × ByteArray) (w : World) (h : Kf w ko n g) :
    Calls Tryz.prog 59 #[.agg #[.int .i64 10, .string t, .int .i64 m, .slice so sn sc, .slice ao an ac, .slice ko n kc]] w fun e w' => e = .returned (.bool (kidB 10 n g)) ∧ Below w.heap.size w w' := by
  have k0 := box_below w (.cells #[.int .i64 10, .string t, .int .i64 m, .slice so sn sc, .slice ao an ac, .slice ko n kc] 31)
  obtain ⟨b0, b1, b2, b3, b4, b5⟩ := box6 (allocNew w (.cells #[.int .i64 10, .string t, .int .i64 m, .slice so sn sc, .slice ao an ac, .slice ko n kc] 31))
  rw [show kidB 10 n g = kaB [1] n g from rfl]
  have k1 := box_below (w.alloc (.cells #[.int .i64 10, .string t, .int .i64 m, .slice so sn sc, .slice ao an ac, .slice ko n kc] 31)) (.cells #[.func (.func 87) #[] #[]] 41)
  have hc := kidsAre_any ko n kc g (some ⟨(w.alloc (.cells #[.int .i64 10, .string t, .int .i64 m, .slice so sn sc, .slice ao an ac, .slice ko n kc] 31)).heap.size, 0, none⟩) 1 [1] _ ((h.below k0 (Nat.le_refl _)).below k1 (Nat.le_refl _)) (wq_lit (w.alloc (.cells #[.int .i64 10, .string t, .int .i64 m, .slice so sn sc, .slice ao an ac, .slice ko n kc] 31)) 41 [1] (by decide) (by decide))
  rw [show (([1] : List Nat).length) = 1 from rfl, World.size_alloc] at hc
  have k2 := k0.trans (k1.mono k0.size)
  generalize kaB [1] n g = B at *
  go_enter Tryz.func59, Tryz.ntmps59
  go_wp2_with (go_at_call 85; (with_reducible refine hc.mono ?_); rintro e w6 ⟨rfl, b6⟩)
  go_ret
  exact ⟨rfl, k2.trans (b6.mono k2.size)⟩
set_option maxHeartbeats 4000000 in
theorem kidsFit_11 (t : ByteArray) (m : Int) (so ao ko : Option Addr) (sn sc an ac n kc : Nat) (g : Nat → Int × ByteArray) (w : World) (h : Kf w ko n g) :
    Calls Tryz.prog 59 #[.agg #[.int .i64 11, .string t, .int .i64 m, .slice so sn sc, .slice ao an ac, .slice ko n kc]] w fun e w' => e = .returned (.bool (kidB 11 n g)) ∧ Below w.heap.size w w' := by
  have k0 := box_below w (.cells #[.int .i64 11, .string t, .int .i64 m, .slice so sn sc, .slice ao an ac, .slice ko n kc] 31)
  obtain ⟨b0, b1, b2, b3, b4, b5⟩ := box6 (allocNew w (.cells #[.int .i64 11, .string t, .int .i64 m, .slice so sn sc, .slice ao an ac, .slice ko n kc] 31))
  rw [show kidB 11 n g = kaB [1] n g from rfl]
  have k1 := box_below (w.alloc (.cells #[.int .i64 11, .string t, .int .i64 m, .slice so sn sc, .slice ao an ac, .slice ko n kc] 31)) (.cells #[.func (.func 87) #[] #[]] 41)
  have hc := kidsAre_any ko n kc g (some ⟨(w.alloc (.cells #[.int .i64 11, .string t, .int .i64 m, .slice so sn sc, .slice ao an ac, .slice ko n kc] 31)).heap.size, 0, none⟩) 1 [1] _ ((h.below k0 (Nat.le_refl _)).below k1 (Nat.le_refl _)) (wq_lit (w.alloc (.cells #[.int .i64 11, .string t, .int .i64 m, .slice so sn sc, .slice ao an ac, .slice ko n kc] 31)) 41 [1] (by decide) (by decide))
  rw [show (([1] : List Nat).length) = 1 from rfl, World.size_alloc] at hc
  have k2 := k0.trans (k1.mono k0.size)
  generalize kaB [1] n g = B at *
  go_enter Tryz.func59, Tryz.ntmps59
  go_wp2_with (go_at_call 85; (with_reducible refine hc.mono ?_); rintro e w6 ⟨rfl, b6⟩)
  go_ret
  exact ⟨rfl, k2.trans (b6.mono k2.size)⟩
end Go.Proofs.YtiahilelcppfgaaGreat
