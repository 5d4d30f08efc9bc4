
/- errors.Is: a number, and an error itself. -/

import Derived.Test.YtfbnnofmplakjaaDoorFI

namespace Go.Proofs.YtfbnnofmplakjaaDoor

open Go.RowKit Go.Extern.Stop Go.Stop Go.Extern

set_option linter.unusedVariables false

theorem cmp_N (w : World) : ((ReflectliteType.method fun t => do Rtype.noPackHeld "Comparable" t; (fun a : TypeInfo => Value.bool a.comparable) <$> typeInfo t) #[.agg #[.pointer (some ⟨4, 59, none⟩)]]).run Tryd.prog w = .ok (.bool true) w := by kernel_rfl
theorem eqs_N (a : Addr) (w : World) : (binOp .eql 26 (.iface 59 (.pointer (some a))) (.iface 59 (.pointer (some a)))).run Tryd.prog w = .ok (.bool true) w := by
  obtain ⟨i, hi, hcmp⟩ := Option.map_eq_some_iff.1 (show (Tryd.prog.info? 59).map (·.comparable) = some true by kernel_rfl)
  obtain ⟨j, hj, hjs⟩ := Option.map_eq_some_iff.1 (show (Tryd.prog.info? 61).map (·.size) = some 2 by kernel_rfl)
  exact run_eql_iface_ptr_same (P := Tryd.prog) w a Tryd.underlying26 Tryd.underlying59 hi hcmp hj
theorem cmp_P (w : World) : ((ReflectliteType.method fun t => do Rtype.noPackHeld "Comparable" t; (fun a : TypeInfo => Value.bool a.comparable) <$> typeInfo t) #[.agg #[.pointer (some ⟨4, 76, none⟩)]]).run Tryd.prog w = .ok (.bool true) w := by kernel_rfl
theorem eqs_P (a : Addr) (w : World) : (binOp .eql 26 (.iface 76 (.pointer (some a))) (.iface 76 (.pointer (some a)))).run Tryd.prog w = .ok (.bool true) w := by
  obtain ⟨i, hi, hcmp⟩ := Option.map_eq_some_iff.1 (show (Tryd.prog.info? 76).map (·.comparable) = some true by kernel_rfl)
  obtain ⟨j, hj, hjs⟩ := Option.map_eq_some_iff.1 (show (Tryd.prog.info? 78).map (·.size) = some 2 by kernel_rfl)
  exact run_eql_iface_ptr_same (P := Tryd.prog) w a Tryd.underlying26 Tryd.underlying76 hi hcmp hj
theorem cmp_S (w : World) : ((ReflectliteType.method fun t => do Rtype.noPackHeld "Comparable" t; (fun a : TypeInfo => Value.bool a.comparable) <$> typeInfo t) #[.agg #[.pointer (some ⟨4, 81, none⟩)]]).run Tryd.prog w = .ok (.bool true) w := by kernel_rfl
theorem eqs_S (a : Addr) (w : World) : (binOp .eql 26 (.iface 81 (.pointer (some a))) (.iface 81 (.pointer (some a)))).run Tryd.prog w = .ok (.bool true) w := by
  obtain ⟨i, hi, hcmp⟩ := Option.map_eq_some_iff.1 (show (Tryd.prog.info? 81).map (·.comparable) = some true by kernel_rfl)
  obtain ⟨j, hj, hjs⟩ := Option.map_eq_some_iff.1 (show (Tryd.prog.info? 83).map (·.size) = some 1 by kernel_rfl)
  exact run_eql_iface_ptr_same (P := Tryd.prog) w a Tryd.underlying26 Tryd.underlying81 hi hcmp hj
theorem cmq22 (w : World) : ((ReflectliteType.method fun t => do Rtype.noPackHeld "Comparable" t; (fun a : TypeInfo => Value.bool a.comparable) <$> typeInfo t) #[.agg #[.pointer (some ⟨4, 22, none⟩)]]).run Tryd.prog w = .ok (.bool true) w := by kernel_rfl
theorem eq22 (a b : Int) (w : World) : (binOp .eql 26 (.iface 22 (.int .i64 a)) (.iface 22 (.int .i64 b))).run Tryd.prog w = .ok (.bool (a == b)) w := by
  obtain ⟨i, hi, hcmp⟩ := Option.map_eq_some_iff.1 (show (Tryd.prog.info? 22).map (·.comparable) = some true by kernel_rfl)
  have h : ∀ d : Nat, (Op.equalIn (d + 2) 26 (.iface 22 (.int .i64 a)) (.iface 22 (.int .i64 b))).run Tryd.prog w = .ok (a == b) w := fun d => by
    simp [Op.equalIn, run_underlying Tryd.underlying26, run_underlying Tryd.underlying22, typeInfo, hi, hcmp]
  simp only [binOp]
  simp [Op.equal, Op.maxDepth, h 9998]

/-- Is the number in the chain? -/
def fnd (b : Bs) (m : Int) : Bool := (b.k != 2) && (b.c == m)
def Il (w : World) (m : Int) (res : Bool) (k : Nat) (e r : Value) (wr : World) : Prop :=
  wr = w ∧ r = .bool false ∧ ∃ (ls : List Lk) (b : Bs), k = rk ls b ∧ Ch w e ls b ∧ fnd b m = res

set_option maxHeartbeats 4000000 in
theorem is1_any (m : Int) (w : World) (e : Value) (ls : List Lk) (b : Bs) (h : Ch w e ls b) (res : Bool) (hr : fnd b m = res) :
    Calls Tryd.prog 22 #[e, .iface 22 (.int .i64 m), .bool true] w fun x w' => x = .returned (.bool res) ∧ w' = w := by
  obtain ⟨te, ve, rfl⟩ := h.iface
  go_enter Tryd.func22, Tryd.ntmps22
  go_wp2
  go_loopg [0, 6] (rk ls b) (fun k s0 s6 wr => Il w m res k s0 s6 wr)
  case atStart => exact ⟨rfl, rfl, ls, b, rfl, h, hr⟩
  case round =>
    clear h hr
    obtain ⟨rfl, rfl, ls', b', hk, hc, hb'⟩ := hrel
    have HK : Hid (gk = rk ls' b') := hk
    have HB : Hid (fnd b' m = res) := hb'
    clear hk hb'
    cases ls' with
    | nil =>
      obtain ⟨h0, ⟨hk1, hnz, g, rfl, hg⟩ | ⟨hk2, g, rfl, hg⟩ | ⟨hk3, rfl⟩⟩ := hc
      · have q1 := run_eql_iface_types (P := Tryd.prog) 76 22 (.pointer (some ⟨g, 0, none⟩)) (.int .i64 m) Tryd.underlying26 (by decide) wr
        have l1 := la89_P (.pointer (some ⟨g, 0, none⟩))
        have l2 := la92_P (.pointer (some ⟨g, 0, none⟩))
        have m1 := mu_P (.pointer (some ⟨g, 0, none⟩))
        have cu := unP g b'.c b'.p _ hg
        have HB2 : Hid (fnd ⟨3, b'.c, -1, []⟩ m = res) := by
          show _ = _
          rw [← HB.out]; simp [fnd, hk1]
        have HK2 : Hid (gk = 1) := by have := HK.out; simp [rk, hk1] at this; exact this
        have hc2 : Ch wr (.iface 22 (.int .i64 b'.c)) [] ⟨3, b'.c, -1, []⟩ := ⟨⟨h0.1, by dsimp only; omega⟩, .inr (.inr ⟨rfl, rfl⟩)⟩
        clear hg hk1 hnz h0 HK HB
        go_wp2_with (go_at_call 85; (with_reducible refine cu.mono ?_); rintro e w1 ⟨rfl, rfl⟩)
        go_roundg 0
        case measure => rw [HK2.out]; omega
        case rel => exact ⟨rfl, rfl, [], ⟨3, b'.c, -1, []⟩, by simp [rk], hc2, HB2.out⟩
      · have q1 := run_eql_iface_types (P := Tryd.prog) 81 22 (.pointer (some ⟨g, 0, none⟩)) (.int .i64 m) Tryd.underlying26 (by decide) wr
        have l1 := la89_S (.pointer (some ⟨g, 0, none⟩))
        have l2 := la92_S (.pointer (some ⟨g, 0, none⟩))
        have l3 := la94_S (.pointer (some ⟨g, 0, none⟩))
        have HB2 : Hid (res = false) := by
          show _ = _
          rw [← HB.out]; simp [fnd, hk2]
        clear hg hk2 h0 HK HB
        go_wp2
        (try simp only [Exit.inBlock, Exit.then])
        go_ret
        exact ⟨by rw [HB2.out]; rfl, rfl⟩
      · have q1 := eq22 b'.c m wr
        have HB2 : Hid (res = (b'.c == m)) := by
          show _ = _
          rw [← HB.out]; simp [fnd, hk3]
        have l1 := la89_E (.int .i64 b'.c)
        have l2 := la92_E (.int .i64 b'.c)
        have l3 := la94_E (.int .i64 b'.c)
        clear hk3 h0 HK HB
        generalize b'.c = y at *
        cases hy : (y == m)
        · rw [hy] at q1
          have HY : Hid ((y == m) = false) := hy
          clear hy
          go_wp2
          (try simp only [Exit.inBlock, Exit.then])
          go_ret
          exact ⟨by rw [HB2.out, HY.out]; rfl, rfl⟩
        · rw [hy] at q1
          have HY : Hid ((y == m) = true) := hy
          clear hy
          go_wp2
          (try simp only [Exit.inBlock, Exit.then])
          go_ret
          exact ⟨by rw [HB2.out, HY.out]; rfl, rfl⟩
    | cons x ls' =>
      cases x with
      | none =>
        obtain ⟨g, i, rfl, hg, hi⟩ := hc
        obtain ⟨ti, vi, rfl⟩ := hi.iface
        have q1 := run_eql_iface_types (P := Tryd.prog) 52 22 (.pointer (some ⟨g, 0, none⟩)) (.int .i64 m) Tryd.underlying26 (by decide) wr
        have l1 := la89_O (.pointer (some ⟨g, 0, none⟩))
        have l2 := la92_O (.pointer (some ⟨g, 0, none⟩))
        have m1 := mu_O (.pointer (some ⟨g, 0, none⟩))
        have cu := unO g (.iface ti vi) _ hg ⟨_, _, rfl⟩
        clear hg
        go_wp2_with (go_at_call 72; (with_reducible refine cu.mono ?_); rintro e w1 ⟨rfl, rfl⟩)
        go_roundg (rk ls' b')
        case measure => rw [HK.out]; simp only [rk, List.length_cons]; omega
        case rel => exact ⟨rfl, rfl, ls', b', rfl, hi, HB.out⟩
      | some nm =>
        obtain ⟨g, i, rfl, hg, hi⟩ := hc
        obtain ⟨ti, vi, rfl⟩ := hi.iface
        have q1 := run_eql_iface_types (P := Tryd.prog) 59 22 (.pointer (some ⟨g, 0, none⟩)) (.int .i64 m) Tryd.underlying26 (by decide) wr
        have l1 := la89_N (.pointer (some ⟨g, 0, none⟩))
        have l2 := la92_N (.pointer (some ⟨g, 0, none⟩))
        have m1 := mu_N (.pointer (some ⟨g, 0, none⟩))
        have cu := unN g (.iface ti vi) _ _ hg ⟨_, _, rfl⟩
        clear hg
        go_wp2_with (go_at_call 74; (with_reducible refine cu.mono ?_); rintro e w1 ⟨rfl, rfl⟩)
        go_roundg (rk ls' b')
        case measure => rw [HK.out]; simp only [rk, List.length_cons]; omega
        case rel => exact ⟨rfl, rfl, ls', b', rfl, hi, HB.out⟩

set_option maxHeartbeats 1000000 in
theorem is_num (m : Int) (w : World) (e : Value) (ls : List Lk) (b : Bs) (h : Ch w e ls b) :
    Calls Tryd.prog 12 #[e, .iface 22 (.int .i64 m)] w fun x w' => x = .returned (.bool (fnd b m)) ∧ w' = w := by
  have h21 := @run_callFunc_extern Tryd.prog 21 _ ReflectliteType.typeOf Tryd.func21 (by kernel_rfl) (by kernel_rfl) (by kernel_rfl) (by kernel_rfl)
  have h89 := @run_callFunc_extern Tryd.prog 89 _ (ReflectliteType.method fun t => do Rtype.noPackHeld "Comparable" t; pure (.bool (← typeInfo t).comparable)) Tryd.func89 (by kernel_rfl) (by kernel_rfl) (by kernel_rfl) (by kernel_rfl)
  have t1 := ty_E (.int .i64 m)
  have t2 := cmq22
  have t3 := methodComparable
  have c := is1_any m w e ls b h _ rfl
  obtain ⟨te, ve, rfl⟩ := h.iface
  clear h
  go_enter Tryd.func12, Tryd.ntmps12
  go_wp2_with (go_at_call 22; (with_reducible refine c.mono ?_); rintro e w1 ⟨rfl, rfl⟩)
  go_ret
  exact ⟨rfl, rfl⟩
end Go.Proofs.YtfbnnofmplakjaaDoor
