
/- An error is found through In: the walk. -/

import Derived.Test.YtfbnnofmplakjaaDoorFR0

namespace Go.Proofs.YtfbnnofmplakjaaDoor

open Go.RowKit Go.Extern.Stop Go.Stop Go.Extern

set_option linter.unusedVariables false

theorem in_self (nm : List UInt8) (w : World) (e : Value) (b : Bs) (h : Ch w e [] b) :
    Calls Tryd.prog 13 #[e, .string ⟨nm.toArray⟩] w fun e' w' => ∃ g, e' = .returned (.iface 59 (.pointer (some ⟨g, 0, none⟩))) ∧ w'.heap[g]? = some (.cells #[e, .string ⟨nm.toArray⟩] 61 (0, 0)) ∧ Below w.heap.size w w' := by
  obtain ⟨T, v, rfl⟩ := h.iface
  go_enter Tryd.func13, Tryd.ntmps13
  go_wp2
  go_ret
  exact ⟨_, rfl, new_blk _ _, (Below.refl _ _).alloc (Nat.le_refl _) _⟩

set_option maxHeartbeats 4000000 in
theorem self_live (kind c o p : Int) (t nm : List UInt8) (w : World) (b : Bs) (hbg : Bg kind c p t = some b) (h0 : -9223372036854775808 ≤ c ∧ c ≤ 9223372036854775807) (h1 : -9223372036854775808 ≤ p ∧ p ≤ 9223372036854775807) (T : Tb w) :
    Calls Tryd.prog 5 #[.int .i64 kind, .int .i64 c, .int .i64 o, .int .i64 p, .string ⟨t.toArray⟩, .string ⟨nm.toArray⟩] w fun r w' => r = .returned (.bool true) ∧ Below w.heap.size w w' := by
  have cA := awake_any w T
  have cB : ∀ V, Tb V → _ := fun V hV => begun_live kind c p t V b hbg h0 h1 hV
  clear hbg h0 h1
  go_enter Tryd.func5, Tryd.ntmps5
  go_upto_region 3 with (first
    | (go_at_call 8; (with_reducible refine cA.mono ?_); rintro e w1 ⟨rfl, b1⟩; have T1 := T.below b1; have cB1 := cB _ T1)
    | (go_at_call 9; (with_reducible refine cB1.mono ?_); rintro e w2 ⟨e2, rfl, hc2, b2⟩))
  have K2 := b1.trans (b2.mono b1.size)
  have bq := box_below w2 (.cells #[.bool true, .int .i64 (cdE b), .int .i64 (plc b), .slice none 0 0, .string ⟨(tx [] b).toArray⟩] 29)
  have hc3 := Ch.below bq (Nat.le_refl _) hc2
  have cI := in_self nm _ e2 b hc3
  have K3 := K2.trans (bq.mono K2.size)
  obtain ⟨te, ve, rfl⟩ := hc2.iface
  clear cA cB cB1 T1 hc2 b1 b2 T
  go_upto_region 6 with (go_at_call 13; (with_reducible refine cI.mono ?_); rintro e w4 ⟨g, rfl, hg, b4⟩)
  have hc4 := Ch.below b4 (Nat.le_refl _) hc3
  have hf : Ch w4 (.iface 59 (.pointer (some ⟨g, 0, none⟩))) [some nm] b := ⟨g, .iface te ve, rfl, hg, hc4⟩
  have i1 := is_self w4 _ _ b nm hf hc4 ⟨g, rfl, hg⟩
  have i2 := is_num o w4 _ _ b hf
  have i3 := is_num o w4 _ _ b hc4
  have i4 := is_refl g w4
  have K4 := K3.trans (b4.mono K3.size)
  generalize fnd b o = x at *
  clear hf hc4 hc3 cI hg b4 bq
  go_wp2_with (first
    | (go_at_call 12; (with_reducible refine i1.mono ?_); rintro e w5 ⟨rfl, rfl⟩)
    | (go_at_call 12; (with_reducible refine i2.mono ?_); rintro e w5 ⟨rfl, rfl⟩)
    | (go_at_call 12; (with_reducible refine i3.mono ?_); rintro e w5 ⟨rfl, rfl⟩)
    | (go_at_call 12; (with_reducible refine i4.mono ?_); rintro e w5 ⟨rfl, rfl⟩))
  go_ret
  exact ⟨rfl, K4⟩
set_option maxHeartbeats 4000000 in
theorem self_dead (kind c o p : Int) (t nm : List UInt8) (w : World) (hbg : Bg kind c p t = none) (h1 : -9223372036854775808 ≤ p ∧ p ≤ 9223372036854775807) (T : Tb w) :
    Calls Tryd.prog 5 #[.int .i64 kind, .int .i64 c, .int .i64 o, .int .i64 p, .string ⟨t.toArray⟩, .string ⟨nm.toArray⟩] w fun r w' => r = .returned (.bool true) ∧ Below w.heap.size w w' := by
  have cA := awake_any w T
  have cB : ∀ V, Tb V → _ := fun V hV => begun_none kind c p t V hbg h1 hV
  clear hbg h1
  go_enter Tryd.func5, Tryd.ntmps5
  go_upto_region 3 with (first
    | (go_at_call 8; (with_reducible refine cA.mono ?_); rintro e w1 ⟨rfl, b1⟩; have T1 := T.below b1; have cB1 := cB _ T1)
    | (go_at_call 9; (with_reducible refine cB1.mono ?_); rintro e w2 ⟨c0, p0, t0, rfl, ht0, b2⟩))
  have K2 := b1.trans (b2.mono b1.size)
  have K3 := K2.trans ((box_below w2 (.cells #[.bool false, .int .i64 c0, .int .i64 p0, .slice none 0 0, .string ⟨t0.toArray⟩] 29)).mono K2.size)
  clear cA cB cB1 T1 b1 b2 K2 ht0 T
  go_wp2
  go_ret
  exact ⟨rfl, K3⟩
theorem self_any (kind c o p : Int) (t nm : List UInt8) (w : World) (h0 : -9223372036854775808 ≤ c ∧ c ≤ 9223372036854775807) (h1 : -9223372036854775808 ≤ p ∧ p ≤ 9223372036854775807) (T : Tb w) :
    Calls Tryd.prog 5 #[.int .i64 kind, .int .i64 c, .int .i64 o, .int .i64 p, .string ⟨t.toArray⟩, .string ⟨nm.toArray⟩] w fun r w' => r = .returned (.bool true) ∧ Below w.heap.size w w' := by
  cases hb : Bg kind c p t with
  | none => exact self_dead kind c o p t nm w hb h1 T
  | some b => exact self_live kind c o p t nm w b hb h0 h1 T
end Go.Proofs.YtfbnnofmplakjaaDoor
