
/- errors.As at a target of the numbers' type; Code. -/

import Derived.Test.YtfbnnofmplakjaaDoorFH

namespace Go.Proofs.YtfbnnofmplakjaaDoor

open Go.RowKit Go.Extern.Stop Go.Stop Go.Extern

set_option linter.unusedVariables false

/-- The target is set where something was found. -/
def stIf (hit : Bool) (X : World) (q : Nat) (c : Int) : World := if hit then X.setCell ⟨q, 0, none⟩ (.int .i64 c) else X

/-- How many rounds the search takes at most. -/
def rk (ls : List Lk) (b : Bs) : Nat := ls.length + (if b.k = 1 then 1 else 0)

/-- Between two rounds of errors.as. -/
def Al (w : World) (c : Int) (hit : Bool) (w1 : World) (k : Nat) (e r : Value) (wr : World) : Prop :=
  wr = w1 ∧ r = .bool false ∧ ∃ (ls : List Lk) (b : Bs), k = rk ls b ∧ Ch w e ls b ∧ (if hit then b.k ≠ 2 ∧ b.c = c else b.k = 2)

set_option maxHeartbeats 4000000 in
theorem as_any (hit : Bool) (c : Int) (w : World) (e : Value) (ls : List Lk) (b : Bs) (h : Ch w e ls b) (hb : if hit then b.k ≠ 2 ∧ b.c = c else b.k = 2) (q a : Nat) (old : Value)
    (hq : w.cell? ⟨q, 0, none⟩ = some old) (hqf : w.frozen? ⟨q, 0, none⟩ = false) (ha : w.cell? ⟨a, 0, none⟩ = some (.pointer (some ⟨q, 0, none⟩))) :
    Calls Tryd.prog 26 #[e, .iface 42 (.pointer (some ⟨q, 0, none⟩)), .agg #[.pointer (some ⟨4, 42, none⟩), .pointer (some ⟨a, 0, none⟩), .int .u64 150], .iface 87 (.agg #[.pointer (some ⟨4, 22, none⟩)])] w
      fun x w' => x = .returned (.bool hit) ∧ ∃ X, Below w.heap.size w X ∧ w' = stIf hit X q c := by
  have h21 := @run_callFunc_extern Tryd.prog 21 _ ReflectliteType.typeOf Tryd.func21 (by kernel_rfl) (by kernel_rfl) (by kernel_rfl) (by kernel_rfl)
  have h88 := @run_callFunc_extern Tryd.prog 88 _ (ReflectliteType.relation "AssignableTo" ReflectliteType.assignableTo) Tryd.func88 (by kernel_rfl) (by kernel_rfl) (by kernel_rfl) (by kernel_rfl)
  have h34 := @run_callFunc_extern Tryd.prog 34 _ (ReflectliteValue.method (ReflectliteValue.valueError "reflectlite.Value.Elem" 0) ReflectliteValue.elem) Tryd.func34 (by kernel_rfl) (by kernel_rfl) (by kernel_rfl) (by kernel_rfl)
  have h23 := @run_callFunc_extern Tryd.prog 23 _ (fun args => ReflectliteValue.unpack (args.getD 0 (.tuple #[]))) Tryd.func23 (by kernel_rfl) (by kernel_rfl) (by kernel_rfl) (by kernel_rfl)
  have h35 := @run_callFunc_extern Tryd.prog 35 _ ReflectliteValue.set Tryd.func35 (by kernel_rfl) (by kernel_rfl) (by kernel_rfl) (by kernel_rfl)
  have mA := methodAssignableTo
  have hal : a < w.heap.size := World.block_lt_of_cell? _ _ ha
  have hql : q < w.heap.size := World.block_lt_of_cell? _ _ hq
  obtain ⟨te, ve, rfl⟩ := h.iface
  go_enter Tryd.func26, Tryd.ntmps26
  go_wp2
  go_loopg [0, 8] (rk ls b) (fun k s0 s8 wr => Al w c hit (w.alloc (.cells #[.pointer (some ⟨4, 42, none⟩), .pointer (some ⟨a, 0, none⟩), .int .u64 150] 65)) k s0 s8 wr)
  case atStart => exact ⟨rfl, rfl, ls, b, rfl, h, hb⟩
  case round =>
    clear h hb
    obtain ⟨rfl, rfl, ls', b', hk, hc, hb'⟩ := hrel
    have bw : Below w.heap.size w (w.alloc (.cells #[.pointer (some ⟨4, 42, none⟩), .pointer (some ⟨a, 0, none⟩), .int .u64 150] 65)) := box_below _ _
    have HK : Hid (gk = rk ls' b') := hk
    have HB : Hid (if hit then b'.k ≠ 2 ∧ b'.c = c else b'.k = 2) := hb'
    clear hk hb'
    cases ls' with
    | nil =>
      obtain ⟨h0, ⟨hk1, hnz, g, rfl, hg⟩ | ⟨hk2, g, rfl, hg⟩ | ⟨hk3, rfl⟩⟩ := hc
      · have t1 := ty_P (.pointer (some ⟨g, 0, none⟩))
        have t2 := asg_P
        have l1 := la99_P (.pointer (some ⟨g, 0, none⟩))
        have l2 := la92_P (.pointer (some ⟨g, 0, none⟩))
        have m1 := mu_P (.pointer (some ⟨g, 0, none⟩))
        have cu := unP g b'.c b'.p _ (heap_at hg bw (Nat.le_refl _))
        have HB2 : Hid (if hit then (3 : Nat) ≠ 2 ∧ b'.c = c else (3 : Nat) = 2) := by
          have := HB.out
          cases hit
          · simp at this; omega
          · have h2 : b'.k ≠ 2 ∧ b'.c = c := by simpa using this
            show (if true = true then (3 : Nat) ≠ 2 ∧ b'.c = c else (3 : Nat) = 2)
            rw [if_pos rfl]
            exact ⟨by decide, h2.2⟩
        have HK2 : Hid (gk = 1) := by have := HK.out; simp [rk, hk1] at this; exact this
        have hc2 : Ch w (.iface 22 (.int .i64 b'.c)) [] ⟨3, b'.c, -1, []⟩ := ⟨⟨h0.1, by dsimp only; omega⟩, .inr (.inr ⟨rfl, rfl⟩)⟩
        clear hg hk1 hnz h0 HK HB
        go_wp2_with (go_at_call 85; (with_reducible refine cu.mono ?_); rintro e w1 ⟨rfl, rfl⟩)
        go_roundg 0
        case measure => rw [HK2.out]; omega
        case rel => exact ⟨rfl, rfl, [], ⟨3, b'.c, -1, []⟩, by simp [rk], hc2, HB2.out⟩
      · have t1 := ty_S (.pointer (some ⟨g, 0, none⟩))
        have t2 := asg_S
        have l1 := la99_S (.pointer (some ⟨g, 0, none⟩))
        have l2 := la92_S (.pointer (some ⟨g, 0, none⟩))
        have l3 := la94_S (.pointer (some ⟨g, 0, none⟩))
        obtain rfl : hit = false := by
          have := HB.out
          cases hit
          · rfl
          · simp [hk2] at this
        clear hg hk2 h0 HK HB
        go_wp2
        (try simp only [Exit.inBlock, Exit.then])
        go_ret
        first | exact ⟨rfl, _, bw, rfl⟩ | exact ⟨rfl, bw⟩
      · have t1 := ty_E (.int .i64 b'.c)
        have t2 := asg_E
        obtain rfl : hit = true := by
          have := HB.out
          cases hit
          · simp at this; omega
          · rfl
        have HB2 : Hid (b'.c = c) := by have := HB.out; simp at this; exact this.2
        have v1 := valueOf22 b'.c
        have e1 := elemV42 ⟨a, 0, none⟩ ⟨q, 0, none⟩ (w.alloc (.cells #[.pointer (some ⟨4, 42, none⟩), .pointer (some ⟨a, 0, none⟩), .int .u64 150] 65)) (by rw [bw.cell hal]; exact ha)
        generalize hX : w.alloc (.cells #[.pointer (some ⟨4, 42, none⟩), .pointer (some ⟨a, 0, none⟩), .int .u64 150] 65) = X at *
        have bX : Below w.heap.size w (X.alloc (.cells #[.int .i64 b'.c] 22)) := bw.alloc bw.size _
        have s1 := set22 ⟨q, 0, none⟩ ⟨X.heap.size, 0, none⟩ b'.c old (X.alloc (.cells #[.int .i64 b'.c] 22)) (by simp) (by rw [bX.cell hql]; exact hq) (by rw [bX.frozen hql]; exact hqf)
        have hv : X.cell? ⟨w.heap.size, 0, none⟩ = some (.pointer (some ⟨4, 42, none⟩)) ∧ X.cell? ⟨w.heap.size, 1, none⟩ = some (.pointer (some ⟨a, 0, none⟩)) ∧ X.cell? ⟨w.heap.size, 2, none⟩ = some (.int .u64 150) := by
          rw [← hX]; simp
        obtain ⟨hv0, hv1, hv2⟩ := hv
        have HX : Hid (w.alloc (.cells #[.pointer (some ⟨4, 42, none⟩), .pointer (some ⟨a, 0, none⟩), .int .u64 150] 65) = X) := hX
        clear hX hk3 h0 HK HB
        go_wp2
        (try simp only [Exit.inBlock, Exit.then])
        go_ret
        exact ⟨rfl, _, bX, by rw [← HB2.out]; rfl⟩
    | cons x ls' =>
      cases x with
      | none =>
        obtain ⟨g, i, rfl, hg, hi⟩ := hc
        obtain ⟨ti, vi, rfl⟩ := hi.iface
        have t1 := ty_O (.pointer (some ⟨g, 0, none⟩))
        have t2 := asg_O
        have l1 := la99_O (.pointer (some ⟨g, 0, none⟩))
        have l2 := la92_O (.pointer (some ⟨g, 0, none⟩))
        have m1 := mu_O (.pointer (some ⟨g, 0, none⟩))
        have cu := unO g (.iface ti vi) _ (heap_at hg bw (Nat.le_refl _)) ⟨_, _, rfl⟩
        clear hg
        go_wp2_with (go_at_call 72; (with_reducible refine cu.mono ?_); rintro e w1 ⟨rfl, rfl⟩)
        go_roundg (rk ls' b')
        case measure => rw [HK.out]; simp only [rk, List.length_cons]; omega
        case rel => exact ⟨rfl, rfl, ls', b', rfl, hi, HB.out⟩
      | some nm =>
        obtain ⟨g, i, rfl, hg, hi⟩ := hc
        obtain ⟨ti, vi, rfl⟩ := hi.iface
        have t1 := ty_N (.pointer (some ⟨g, 0, none⟩))
        have t2 := asg_N
        have l1 := la99_N (.pointer (some ⟨g, 0, none⟩))
        have l2 := la92_N (.pointer (some ⟨g, 0, none⟩))
        have m1 := mu_N (.pointer (some ⟨g, 0, none⟩))
        have cu := unN g (.iface ti vi) _ _ (heap_at hg bw (Nat.le_refl _)) ⟨_, _, rfl⟩
        clear hg
        go_wp2_with (go_at_call 74; (with_reducible refine cu.mono ?_); rintro e w1 ⟨rfl, rfl⟩)
        go_roundg (rk ls' b')
        case measure => rw [HK.out]; simp only [rk, List.length_cons]; omega
        case rel => exact ⟨rfl, rfl, ls', b', rfl, hi, HB.out⟩
end Go.Proofs.YtfbnnofmplakjaaDoor
