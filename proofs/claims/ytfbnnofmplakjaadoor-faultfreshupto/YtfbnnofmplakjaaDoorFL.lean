
/- errors.Is: an error itself. -/

import Derived.Test.YtfbnnofmplakjaaDoorFK

namespace Go.Proofs.YtfbnnofmplakjaaDoor

open Go.RowKit Go.Extern.Stop Go.Stop Go.Extern

set_option linter.unusedVariables false

set_option maxHeartbeats 1000000 in
theorem is_refl (g : Nat) (w : World) :
    Calls Tryd.prog 12 #[.iface 59 (.pointer (some ⟨g, 0, none⟩)), .iface 59 (.pointer (some ⟨g, 0, none⟩))] w fun x w' => x = .returned (.bool true) ∧ w' = w := by
  have h21 := @run_callFunc_extern Tryd.prog 21 _ ReflectliteType.typeOf Tryd.func21 (by kernel_rfl) (by kernel_rfl) (by kernel_rfl) (by kernel_rfl)
  have h89 := @run_callFunc_extern Tryd.prog 89 _ (ReflectliteType.method fun t => do Rtype.noPackHeld "Comparable" t; pure (.bool (← typeInfo t).comparable)) Tryd.func89 (by kernel_rfl) (by kernel_rfl) (by kernel_rfl) (by kernel_rfl)
  have t1 := ty_N (.pointer (some ⟨g, 0, none⟩))
  have t2 := cmp_N
  have t3 := methodComparable
  have q1 := eqs_N ⟨g, 0, none⟩ w
  go_enter Tryd.func12, Tryd.ntmps12
  go_wp2
  refine wp_loop_rounds 1 ?_
  rw [rounds_succ]
  go_wp2
  go_ret
  exact ⟨rfl, rfl⟩
set_option maxHeartbeats 1000000 in
theorem is_inP (g q : Nat) (n : Value) (w : World) (h : w.heap[g]? = some (.cells #[.iface 76 (.pointer (some ⟨q, 0, none⟩)), n] 61 (0, 0))) :
    Calls Tryd.prog 12 #[.iface 59 (.pointer (some ⟨g, 0, none⟩)), .iface 76 (.pointer (some ⟨q, 0, none⟩))] w fun x w' => x = .returned (.bool true) ∧ w' = w := by
  have h21 := @run_callFunc_extern Tryd.prog 21 _ ReflectliteType.typeOf Tryd.func21 (by kernel_rfl) (by kernel_rfl) (by kernel_rfl) (by kernel_rfl)
  have h89 := @run_callFunc_extern Tryd.prog 89 _ (ReflectliteType.method fun t => do Rtype.noPackHeld "Comparable" t; pure (.bool (← typeInfo t).comparable)) Tryd.func89 (by kernel_rfl) (by kernel_rfl) (by kernel_rfl) (by kernel_rfl)
  have t1 := ty_P (.pointer (some ⟨q, 0, none⟩))
  have t2 := cmp_P
  have t3 := methodComparable
  have q0 := run_eql_iface_types (P := Tryd.prog) 59 76 (.pointer (some ⟨g, 0, none⟩)) (.pointer (some ⟨q, 0, none⟩)) Tryd.underlying26 (by decide) w
  have l1 := la89_N (.pointer (some ⟨g, 0, none⟩))
  have l2 := la92_N (.pointer (some ⟨g, 0, none⟩))
  have m1 := mu_N (.pointer (some ⟨g, 0, none⟩))
  have cu := unN g _ _ w h ⟨_, _, rfl⟩
  have q1 := eqs_P ⟨q, 0, none⟩ w
  clear h
  go_enter Tryd.func12, Tryd.ntmps12
  go_wp2
  refine wp_loop_rounds 2 ?_
  rw [rounds_succ]
  go_wp2_with (go_at_call 74; (with_reducible refine cu.mono ?_); rintro e w1 ⟨rfl, rfl⟩)
  rw [rounds_succ]
  go_wp2
  go_ret
  exact ⟨rfl, rfl⟩
set_option maxHeartbeats 1000000 in
theorem is_inS (g q : Nat) (n : Value) (w : World) (h : w.heap[g]? = some (.cells #[.iface 81 (.pointer (some ⟨q, 0, none⟩)), n] 61 (0, 0))) :
    Calls Tryd.prog 12 #[.iface 59 (.pointer (some ⟨g, 0, none⟩)), .iface 81 (.pointer (some ⟨q, 0, none⟩))] w fun x w' => x = .returned (.bool true) ∧ w' = w := by
  have h21 := @run_callFunc_extern Tryd.prog 21 _ ReflectliteType.typeOf Tryd.func21 (by kernel_rfl) (by kernel_rfl) (by kernel_rfl) (by kernel_rfl)
  have h89 := @run_callFunc_extern Tryd.prog 89 _ (ReflectliteType.method fun t => do Rtype.noPackHeld "Comparable" t; pure (.bool (← typeInfo t).comparable)) Tryd.func89 (by kernel_rfl) (by kernel_rfl) (by kernel_rfl) (by kernel_rfl)
  have t1 := ty_S (.pointer (some ⟨q, 0, none⟩))
  have t2 := cmp_S
  have t3 := methodComparable
  have q0 := run_eql_iface_types (P := Tryd.prog) 59 81 (.pointer (some ⟨g, 0, none⟩)) (.pointer (some ⟨q, 0, none⟩)) Tryd.underlying26 (by decide) w
  have l1 := la89_N (.pointer (some ⟨g, 0, none⟩))
  have l2 := la92_N (.pointer (some ⟨g, 0, none⟩))
  have m1 := mu_N (.pointer (some ⟨g, 0, none⟩))
  have cu := unN g _ _ w h ⟨_, _, rfl⟩
  have q1 := eqs_S ⟨q, 0, none⟩ w
  clear h
  go_enter Tryd.func12, Tryd.ntmps12
  go_wp2
  refine wp_loop_rounds 2 ?_
  rw [rounds_succ]
  go_wp2_with (go_at_call 74; (with_reducible refine cu.mono ?_); rintro e w1 ⟨rfl, rfl⟩)
  rw [rounds_succ]
  go_wp2
  go_ret
  exact ⟨rfl, rfl⟩

/-- What was handed to In is found in what it gave. -/
theorem is_self (w : World) (e f : Value) (b : Bs) (nm : List UInt8) (h : Ch w f [some nm] b) (he : Ch w e [] b) (hfe : ∃ g, f = .iface 59 (.pointer (some ⟨g, 0, none⟩)) ∧ w.heap[g]? = some (.cells #[e, .string ⟨nm.toArray⟩] 61 (0, 0))) :
    Calls Tryd.prog 12 #[f, e] w fun x w' => x = .returned (.bool true) ∧ w' = w := by
  obtain ⟨g, rfl, hg⟩ := hfe
  obtain ⟨h0, ⟨hk1, hnz, q, rfl, hq⟩ | ⟨hk2, q, rfl, hq⟩ | ⟨hk3, rfl⟩⟩ := he
  · exact is_inP g q _ w hg
  · exact is_inS g q _ w hg
  · refine (is_num b.c w _ _ b h).mono fun x w' ⟨h1, h2⟩ => ⟨?_, h2⟩
    rw [h1]; simp [fnd, hk3]
end Go.Proofs.YtfbnnofmplakjaaDoor
