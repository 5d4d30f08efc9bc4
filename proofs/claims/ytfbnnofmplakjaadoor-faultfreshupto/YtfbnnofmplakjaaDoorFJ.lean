
/- errors.As at a target of the numbers' type, whole; Code. -/

import Derived.Test.YtfbnnofmplakjaaDoorFI

import Derived.Deep.Cut

namespace Go.Proofs.YtfbnnofmplakjaaDoor

open Go.RowKit Go.Extern.Stop Go.Stop Go.Extern

set_option linter.unusedVariables false

theorem et_is : Tryd.prog.globalNamed "errors.errorType" = some 0 := by kernel_rfl
theorem Tb.cell {w : World} (h : Tb w) : w.cell? ⟨0, 0, none⟩ = some (.iface 87 (.agg #[.pointer (some ⟨4, 26, none⟩)])) := by
  simpa using World.var?_cell et_is h.2 0

theorem as_nil (t : Value) (w : World) : Calls Tryd.prog 14 #[.nilIface, t] w fun e w' => e = .returned (.bool false) ∧ w' = w := by
  go_enter Tryd.func14, Tryd.ntmps14
  go_wp2
  go_ret
  exact ⟨rfl, rfl⟩

set_option maxHeartbeats 4000000 in
theorem asTop (hit : Bool) (c : Int) (w : World) (e : Value) (ls : List Lk) (b : Bs) (h : Ch w e ls b) (hb : if hit then b.k ≠ 2 ∧ b.c = c else b.k = 2) (q : Nat) (old : Value) (T : Tb w)
    (hq : w.cell? ⟨q, 0, none⟩ = some old) (hqf : w.frozen? ⟨q, 0, none⟩ = false) :
    Calls Tryd.prog 14 #[e, .iface 42 (.pointer (some ⟨q, 0, none⟩))] w
      fun x w' => x = .returned (.bool hit) ∧ ∃ X, Below w.heap.size w X ∧ w' = stIf hit X q c := by
  have h23 := @run_callFunc_extern Tryd.prog 23 _ (fun args => ReflectliteValue.unpack (args.getD 0 (.tuple #[]))) Tryd.func23 (by kernel_rfl) (by kernel_rfl) (by kernel_rfl) (by kernel_rfl)
  have h24 := @run_callFunc_extern Tryd.prog 24 _ (ReflectliteValue.methodAny (ReflectliteValue.valueError "reflectlite.Value.Type" 0) (fun t _ _ _ => ReflectliteType.toType t)) Tryd.func24 (by kernel_rfl) (by kernel_rfl) (by kernel_rfl) (by kernel_rfl)
  have h25 := @run_callFunc_extern Tryd.prog 25 _ (ReflectliteValue.method (ReflectliteValue.valueError "reflectlite.Value.IsNil" 0) ReflectliteValue.isNil) Tryd.func25 (by kernel_rfl) (by kernel_rfl) (by kernel_rfl) (by kernel_rfl)
  have h67 := @run_callFunc_extern Tryd.prog 67 _ (ReflectliteType.abiMethod fun t => do pure (.int .u8 (← Rtype.kind t))) Tryd.func67 (by kernel_rfl) (by kernel_rfl) (by kernel_rfl) (by kernel_rfl)
  have h90 := @run_callFunc_extern Tryd.prog 90 _ (ReflectliteType.method ReflectliteType.elem) Tryd.func90 (by kernel_rfl) (by kernel_rfl) (by kernel_rfl) (by kernel_rfl)
  have h91 := @run_callFunc_extern Tryd.prog 91 _ (ReflectliteType.relation "Implements" ReflectliteType.implements_) Tryd.func91 (by kernel_rfl) (by kernel_rfl) (by kernel_rfl) (by kernel_rfl)
  have v1 := valueOf42 ⟨q, 0, none⟩
  have v2 := type42 ⟨w.heap.size, 0, none⟩
  have v3 := methodKind
  have v4 := kind42
  have v5 := kind22
  have v6 := methodElem
  have v7 := methodImplements
  have v8 := elem42
  have v9 := implements22
  have bw : Below w.heap.size w ((w.alloc (.cells #[.pointer (some ⟨q, 0, none⟩)] 42)).alloc (.cells #[.pointer (some ⟨4, 42, none⟩), .pointer (some ⟨w.heap.size, 0, none⟩), .int .u64 150] 65)) := (box_below _ _).alloc (by simp) _
  have n8 := isNil42 ⟨w.heap.size, 0, none⟩ ⟨q, 0, none⟩ ((w.alloc (.cells #[.pointer (some ⟨q, 0, none⟩)] 42)).alloc (.cells #[.pointer (some ⟨4, 42, none⟩), .pointer (some ⟨w.heap.size, 0, none⟩), .int .u64 150] 65)) (by simp)
  have hg := (T.below bw).cell
  have hql : q < w.heap.size := World.block_lt_of_cell? _ _ hq
  have cA := as_any hit c _ e ls b (Ch.below bw (Nat.le_refl _) h) hb q w.heap.size old (by rw [bw.cell hql]; exact hq) (by rw [bw.frozen hql]; exact hqf) (by simp)
  obtain ⟨te, ve, rfl⟩ := h.iface
  have HW : Hid (∀ X, Below ((w.alloc (.cells #[.pointer (some ⟨q, 0, none⟩)] 42)).alloc (.cells #[.pointer (some ⟨4, 42, none⟩), .pointer (some ⟨w.heap.size, 0, none⟩), .int .u64 150] 65)).heap.size ((w.alloc (.cells #[.pointer (some ⟨q, 0, none⟩)] 42)).alloc (.cells #[.pointer (some ⟨4, 42, none⟩), .pointer (some ⟨w.heap.size, 0, none⟩), .int .u64 150] 65)) X → Below w.heap.size w X) := fun X hX => bw.trans (hX.mono bw.size)
  clear bw h hb hq hqf T
  go_enter Tryd.func14, Tryd.ntmps14
  go_wp2_with (go_at_call 26; (with_reducible refine cA.mono ?_); rintro e w1 ⟨rfl, X, hX, hw1⟩; have HW1 : Hid (w1 = stIf hit X q c) := hw1; clear hw1)
  go_ret
  exact ⟨rfl, X, HW.out X hX, HW1.out⟩

/-- The number of a chain. -/
def cdE (b : Bs) : Int := if b.k = 2 then 39 else b.c

set_option maxHeartbeats 1000000 in
theorem code1_any (w : World) (e : Value) (ls : List Lk) (b : Bs) (h : Ch w e ls b) (q : Nat) (hq : w.cell? ⟨q, 0, none⟩ = some e) (T : Tb w) :
    Calls Tryd.prog 32 #[.pointer (some ⟨q, 0, none⟩)] w fun x w' => x = .returned (.int .i64 (cdE b)) ∧ Below w.heap.size w w' := by
  have bw := box_below w (.cells #[.int .i64 0] 22)
  have hqb : (w.alloc (.cells #[.int .i64 0] 22)).cell? ⟨q, 0, none⟩ = some e := by rw [bw.cell (World.block_lt_of_cell? _ _ hq)]; exact hq
  by_cases hk : b.k = 2
  · have HC : Hid (cdE b = 39) := if_pos hk
    have cA := asTop false 0 _ e ls b (Ch.below bw (Nat.le_refl _) h) hk w.heap.size (.int .i64 0) (T.below bw) (by simp) (by simp)
    obtain ⟨te, ve, rfl⟩ := h.iface
    clear hk h hq T
    go_enter Tryd.func32, Tryd.ntmps32
    go_wp2_with (go_at_call 14; (with_reducible refine cA.mono ?_); rintro e w1 ⟨rfl, X, hX, hw1⟩)
    go_ret
    refine ⟨by rw [HC.out]; rfl, ?_⟩
    have hw1' : w1 = X := hw1
    first | exact bw.trans (hX.mono bw.size) | (rw [hw1']; exact bw.trans (hX.mono bw.size))
  · have HC : Hid (cdE b = b.c) := if_neg hk
    have cA := asTop true b.c _ e ls b (Ch.below bw (Nat.le_refl _) h) ⟨hk, rfl⟩ w.heap.size (.int .i64 0) (T.below bw) (by simp) (by simp)
    obtain ⟨te, ve, rfl⟩ := h.iface
    clear hk h hq T
    go_enter Tryd.func32, Tryd.ntmps32
    go_wp2_with (go_at_call 14; (with_reducible refine cA.mono ?_); rintro e w1 ⟨rfl, X, hX, hw1⟩; have hw1' : w1 = X.setCell ⟨w.heap.size, 0, none⟩ (.int .i64 b.c) := hw1; have hcx : w1.cell? ⟨w.heap.size, 0, none⟩ = some (.int .i64 b.c) := (by rw [hw1']; exact World.cell?_setCell_same _ _ _ (by rw [show X.cell? ⟨w.heap.size, 0, none⟩ = some (.int .i64 0) from (hX.cell (p := ⟨w.heap.size, 0, none⟩) (by simp)).trans (by simp)])); have HW1 : Hid (w1 = X.setCell ⟨w.heap.size, 0, none⟩ (.int .i64 b.c)) := hw1'; clear hw1 hw1')
    go_ret
    refine ⟨by rw [HC.out]; rfl, ?_⟩
    rw [HW1.out]; exact (bw.trans (hX.mono bw.size)).setCell (Nat.le_refl _) _

set_option maxHeartbeats 1000000 in
theorem code_any (w : World) (e : Value) (ls : List Lk) (b : Bs) (h : Ch w e ls b) (T : Tb w) :
    Calls Tryd.prog 18 #[e] w fun x w' => x = .returned (.int .i64 (cdE b)) ∧ Below w.heap.size w w' := by
  have bw := box_below w (.cells #[e] 26)
  have key : ∀ V, Below (w.alloc (.cells #[e] 26)).heap.size (w.alloc (.cells #[e] 26)) V → Calls Tryd.prog 32 #[.pointer (some ⟨w.heap.size, 0, none⟩)] V fun x V' => x = .returned (.int .i64 (cdE b)) ∧ Below V.heap.size V V' := fun V hV =>
    code1_any V e ls b (Ch.below (bw.trans (hV.mono bw.size)) (Nat.le_refl _) h) w.heap.size (by rw [hV.cell (by simp)]; simp) (T.below (bw.trans (hV.mono bw.size)))
  have cG := guardC ⟨w.heap.size, 0, none⟩ (cdE b) _ key
  have hmf := mkf
  obtain ⟨te, ve, rfl⟩ := h.iface
  clear key h T
  go_enter Tryd.func18, Tryd.ntmps18
  go_wp2_with (go_at_call 31; (with_reducible refine cG.mono ?_); rintro e w1 ⟨rfl, b1⟩)
  go_ret
  exact ⟨rfl, bw.trans (b1.mono bw.size)⟩
theorem code_nil (w : World) : Calls Tryd.prog 18 #[.nilIface] w fun x w' => x = .returned (.int .i64 0) ∧ Below w.heap.size w w' := by
  go_enter Tryd.func18, Tryd.ntmps18
  go_wp2
  go_ret
  exact ⟨rfl, box_below _ _⟩
end Go.Proofs.YtfbnnofmplakjaaDoor
