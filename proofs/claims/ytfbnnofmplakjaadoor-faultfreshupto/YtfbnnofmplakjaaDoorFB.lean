
/- Contracts: what is asked under a guard that catches panics. -/

import Derived.Test.YtfbnnofmplakjaaDoorFA

import Derived.Laws.Pointers

import Derived.Laws.ResultCell

namespace Go.Proofs.YtfbnnofmplakjaaDoor

open Go.RowKit Go.Extern.Stop Go.Stop Go.Extern

set_option linter.unusedVariables false

theorem mkf (fn : Fn) (first cap : Array Value) (w : World) : (Instr.makeFunc fn first cap).run Tryd.prog w = .ok (.func fn first cap) w := rfl

theorem idle79 (p q : Addr) (w : World) :
    CallsD Tryd.prog 79 #[.pointer (some p), .pointer (some q)] .returning w fun e u' w' => e = .returned (.tuple #[]) ∧ u' = .returning ∧ w' = w := by
  refine callsD_of_wpS Tryd.func79 rfl fun c₀ cs hu => ?_
  apply wpS_seq
  apply wpS_region
  simp [wpOpsS, go_sem, recoverD, hu, Tryd.ntmps79, Exit.thenS]
  refine wpS_cond (t := false) (by simp [Act.eval, Array.replicate]) ?_
  simp only [Bool.false_eq_true, if_false]
  refine wpS_of_wp (wp_skip ?_)
  cases c₀
  simp_all [bodyPostS, results, Tryd.results79]

theorem idle40 (p q : Addr) (w : World) :
    CallsD Tryd.prog 40 #[.pointer (some p), .pointer (some q)] .returning w fun e u' w' => e = .returned (.tuple #[]) ∧ u' = .returning ∧ w' = w := by
  refine callsD_of_wpS Tryd.func40 rfl fun c₀ cs hu => ?_
  apply wpS_seq
  apply wpS_region
  simp [wpOpsS, go_sem, recoverD, hu, Tryd.ntmps40, Exit.thenS]
  refine wpS_cond (t := false) (by simp [Act.eval, Array.replicate]) ?_
  simp only [Bool.false_eq_true, if_false]
  refine wpS_of_wp (wp_skip ?_)
  cases c₀
  simp_all [bodyPostS, results, Tryd.results40]

theorem idle41 (p q : Addr) (w : World) :
    CallsD Tryd.prog 41 #[.pointer (some p), .pointer (some q)] .returning w fun e u' w' => e = .returned (.tuple #[]) ∧ u' = .returning ∧ w' = w := by
  refine callsD_of_wpS Tryd.func41 rfl fun c₀ cs hu => ?_
  apply wpS_seq
  apply wpS_region
  simp [wpOpsS, go_sem, recoverD, hu, Tryd.ntmps41, Exit.thenS]
  refine wpS_cond (t := false) (by simp [Act.eval, Array.replicate]) ?_
  simp only [Bool.false_eq_true, if_false]
  refine wpS_of_wp (wp_skip ?_)
  cases c₀
  simp_all [bodyPostS, results, Tryd.results41]

set_option maxHeartbeats 1000000 in
theorem guardS_O (v : Value) (s : ByteArray) (l : List UInt8) (w : World)
    (c : ∀ V, Below w.heap.size w V → Calls Tryd.prog 71 #[v] V fun e V' => e = .returned (.string ⟨l.toArray⟩) ∧ Below V.heap.size V V') :
    Calls Tryd.prog 76 #[.string s, .func (.method "Error") #[.iface 52 v] #[]] w fun e w' => e = .returned (.string ⟨l.toArray⟩) ∧ Below w.heap.size w w' := by
  have hmf := mkf
  have hm := me_O v
  go_enter_defers Tryd.func76, Tryd.ntmps76
  go_wp2_with (go_at_call 71; (with_reducible refine (c _ (((Below.refl _ _).alloc (Nat.le_refl _) _).alloc (by simp) _)).mono ?_); rintro e w1 ⟨rfl, b1⟩; have hc1 : w1.cell? ⟨w.heap.size + 1, 0, none⟩ = some (.string ⟨#[]⟩) := (by rw [b1.cell (by simp)]; simp); have hf1 : w1.frozen? ⟨w.heap.size + 1, 0, none⟩ = false := (by rw [b1.frozen (by simp)]; simp))
  refine leaves_cons (f := 79) (args := #[.pointer (some ⟨w.heap.size, 0, none⟩), .pointer (some ⟨w.heap.size + 1, 0, none⟩)]) (by simp) (by simp [go_sem]) ?_
  refine (idle79 ⟨w.heap.size, 0, none⟩ ⟨w.heap.size + 1, 0, none⟩ _).mono ?_
  rintro e u' w'' ⟨rfl, rfl, rfl⟩
  have b2 : Below w.heap.size w w1 := ((((Below.refl _ _).alloc (Nat.le_refl _) _).alloc (by simp) _).trans (b1.mono (by simp; omega)))
  have b3 := b2.setCell (p := ⟨w.heap.size + 1, 0, none⟩) (by simp) (.string ⟨l.toArray⟩)
  have hr : (w1.setCell ⟨w.heap.size + 1, 0, none⟩ (.string ⟨l.toArray⟩)).cell? ⟨w.heap.size + 1, 0, none⟩ = some (.string ⟨l.toArray⟩) := World.cell?_setCell_same _ _ _ (by rw [hc1])
  simp [Leaves, settle, results, Tryd.results76, go_sem, hr, b3]

set_option maxHeartbeats 1000000 in
theorem guardS_P (v : Value) (s : ByteArray) (l : List UInt8) (w : World)
    (c : ∀ V, Below w.heap.size w V → Calls Tryd.prog 84 #[v] V fun e V' => e = .returned (.string ⟨l.toArray⟩) ∧ Below V.heap.size V V') :
    Calls Tryd.prog 76 #[.string s, .func (.method "Error") #[.iface 76 v] #[]] w fun e w' => e = .returned (.string ⟨l.toArray⟩) ∧ Below w.heap.size w w' := by
  have hmf := mkf
  have hm := me_P v
  go_enter_defers Tryd.func76, Tryd.ntmps76
  go_wp2_with (go_at_call 84; (with_reducible refine (c _ (((Below.refl _ _).alloc (Nat.le_refl _) _).alloc (by simp) _)).mono ?_); rintro e w1 ⟨rfl, b1⟩; have hc1 : w1.cell? ⟨w.heap.size + 1, 0, none⟩ = some (.string ⟨#[]⟩) := (by rw [b1.cell (by simp)]; simp); have hf1 : w1.frozen? ⟨w.heap.size + 1, 0, none⟩ = false := (by rw [b1.frozen (by simp)]; simp))
  refine leaves_cons (f := 79) (args := #[.pointer (some ⟨w.heap.size, 0, none⟩), .pointer (some ⟨w.heap.size + 1, 0, none⟩)]) (by simp) (by simp [go_sem]) ?_
  refine (idle79 ⟨w.heap.size, 0, none⟩ ⟨w.heap.size + 1, 0, none⟩ _).mono ?_
  rintro e u' w'' ⟨rfl, rfl, rfl⟩
  have b2 : Below w.heap.size w w1 := ((((Below.refl _ _).alloc (Nat.le_refl _) _).alloc (by simp) _).trans (b1.mono (by simp; omega)))
  have b3 := b2.setCell (p := ⟨w.heap.size + 1, 0, none⟩) (by simp) (.string ⟨l.toArray⟩)
  have hr : (w1.setCell ⟨w.heap.size + 1, 0, none⟩ (.string ⟨l.toArray⟩)).cell? ⟨w.heap.size + 1, 0, none⟩ = some (.string ⟨l.toArray⟩) := World.cell?_setCell_same _ _ _ (by rw [hc1])
  simp [Leaves, settle, results, Tryd.results76, go_sem, hr, b3]

set_option maxHeartbeats 1000000 in
theorem guardS_S (v : Value) (s : ByteArray) (l : List UInt8) (w : World)
    (c : ∀ V, Below w.heap.size w V → Calls Tryd.prog 86 #[v] V fun e V' => e = .returned (.string ⟨l.toArray⟩) ∧ Below V.heap.size V V') :
    Calls Tryd.prog 76 #[.string s, .func (.method "Error") #[.iface 81 v] #[]] w fun e w' => e = .returned (.string ⟨l.toArray⟩) ∧ Below w.heap.size w w' := by
  have hmf := mkf
  have hm := me_S v
  go_enter_defers Tryd.func76, Tryd.ntmps76
  go_wp2_with (go_at_call 86; (with_reducible refine (c _ (((Below.refl _ _).alloc (Nat.le_refl _) _).alloc (by simp) _)).mono ?_); rintro e w1 ⟨rfl, b1⟩; have hc1 : w1.cell? ⟨w.heap.size + 1, 0, none⟩ = some (.string ⟨#[]⟩) := (by rw [b1.cell (by simp)]; simp); have hf1 : w1.frozen? ⟨w.heap.size + 1, 0, none⟩ = false := (by rw [b1.frozen (by simp)]; simp))
  refine leaves_cons (f := 79) (args := #[.pointer (some ⟨w.heap.size, 0, none⟩), .pointer (some ⟨w.heap.size + 1, 0, none⟩)]) (by simp) (by simp [go_sem]) ?_
  refine (idle79 ⟨w.heap.size, 0, none⟩ ⟨w.heap.size + 1, 0, none⟩ _).mono ?_
  rintro e u' w'' ⟨rfl, rfl, rfl⟩
  have b2 : Below w.heap.size w w1 := ((((Below.refl _ _).alloc (Nat.le_refl _) _).alloc (by simp) _).trans (b1.mono (by simp; omega)))
  have b3 := b2.setCell (p := ⟨w.heap.size + 1, 0, none⟩) (by simp) (.string ⟨l.toArray⟩)
  have hr : (w1.setCell ⟨w.heap.size + 1, 0, none⟩ (.string ⟨l.toArray⟩)).cell? ⟨w.heap.size + 1, 0, none⟩ = some (.string ⟨l.toArray⟩) := World.cell?_setCell_same _ _ _ (by rw [hc1])
  simp [Leaves, settle, results, Tryd.results76, go_sem, hr, b3]

set_option maxHeartbeats 1000000 in
theorem guardS_E (v : Value) (s : ByteArray) (l : List UInt8) (w : World)
    (c : ∀ V, Below w.heap.size w V → Calls Tryd.prog 70 #[v] V fun e V' => e = .returned (.string ⟨l.toArray⟩) ∧ Below V.heap.size V V') :
    Calls Tryd.prog 76 #[.string s, .func (.method "Error") #[.iface 22 v] #[]] w fun e w' => e = .returned (.string ⟨l.toArray⟩) ∧ Below w.heap.size w w' := by
  have hmf := mkf
  have hm := me_E v
  go_enter_defers Tryd.func76, Tryd.ntmps76
  go_wp2_with (go_at_call 70; (with_reducible refine (c _ (((Below.refl _ _).alloc (Nat.le_refl _) _).alloc (by simp) _)).mono ?_); rintro e w1 ⟨rfl, b1⟩; have hc1 : w1.cell? ⟨w.heap.size + 1, 0, none⟩ = some (.string ⟨#[]⟩) := (by rw [b1.cell (by simp)]; simp); have hf1 : w1.frozen? ⟨w.heap.size + 1, 0, none⟩ = false := (by rw [b1.frozen (by simp)]; simp))
  refine leaves_cons (f := 79) (args := #[.pointer (some ⟨w.heap.size, 0, none⟩), .pointer (some ⟨w.heap.size + 1, 0, none⟩)]) (by simp) (by simp [go_sem]) ?_
  refine (idle79 ⟨w.heap.size, 0, none⟩ ⟨w.heap.size + 1, 0, none⟩ _).mono ?_
  rintro e u' w'' ⟨rfl, rfl, rfl⟩
  have b2 : Below w.heap.size w w1 := ((((Below.refl _ _).alloc (Nat.le_refl _) _).alloc (by simp) _).trans (b1.mono (by simp; omega)))
  have b3 := b2.setCell (p := ⟨w.heap.size + 1, 0, none⟩) (by simp) (.string ⟨l.toArray⟩)
  have hr : (w1.setCell ⟨w.heap.size + 1, 0, none⟩ (.string ⟨l.toArray⟩)).cell? ⟨w.heap.size + 1, 0, none⟩ = some (.string ⟨l.toArray⟩) := World.cell?_setCell_same _ _ _ (by rw [hc1])
  simp [Leaves, settle, results, Tryd.results76, go_sem, hr, b3]

set_option maxHeartbeats 1000000 in
theorem guardC (p : Addr) (n : Int) (w : World)
    (c : ∀ V, Below w.heap.size w V → Calls Tryd.prog 32 #[.pointer (some p)] V fun e V' => e = .returned (.int .i64 n) ∧ Below V.heap.size V V') :
    Calls Tryd.prog 31 #[.int .i64 39, .func (.func 32) #[] #[.pointer (some p)]] w fun e w' => e = .returned (.int .i64 n) ∧ Below w.heap.size w w' := by
  have hmf := mkf
  go_enter_defers Tryd.func31, Tryd.ntmps31
  go_wp2_with (go_at_call 32; (with_reducible refine (c _ (((Below.refl _ _).alloc (Nat.le_refl _) _).alloc (by simp) _)).mono ?_); rintro e w1 ⟨rfl, b1⟩; have hc1 : w1.cell? ⟨w.heap.size + 1, 0, none⟩ = some (.int .i64 0) := (by rw [b1.cell (by simp)]; simp); have hf1 : w1.frozen? ⟨w.heap.size + 1, 0, none⟩ = false := (by rw [b1.frozen (by simp)]; simp))
  refine leaves_cons (f := 40) (args := #[.pointer (some ⟨w.heap.size, 0, none⟩), .pointer (some ⟨w.heap.size + 1, 0, none⟩)]) (by simp) (by simp [go_sem]) ?_
  refine (idle40 ⟨w.heap.size, 0, none⟩ ⟨w.heap.size + 1, 0, none⟩ _).mono ?_
  rintro e u' w'' ⟨rfl, rfl, rfl⟩
  have b2 : Below w.heap.size w w1 := ((((Below.refl _ _).alloc (Nat.le_refl _) _).alloc (by simp) _).trans (b1.mono (by simp; omega)))
  have b3 := b2.setCell (p := ⟨w.heap.size + 1, 0, none⟩) (by simp) (.int .i64 n)
  have hr : (w1.setCell ⟨w.heap.size + 1, 0, none⟩ (.int .i64 n)).cell? ⟨w.heap.size + 1, 0, none⟩ = some (.int .i64 n) := World.cell?_setCell_same _ _ _ (by rw [hc1])
  simp [Leaves, settle, results, Tryd.results31, go_sem, hr, b3]

set_option maxHeartbeats 1000000 in
theorem guardE (p : Addr) (t : TypeId) (v : Value) (w : World)
    (c : ∀ V, Below w.heap.size w V → Calls Tryd.prog 37 #[.pointer (some p)] V fun e V' => e = .returned (.iface t v) ∧ Below V.heap.size V V') :
    Calls Tryd.prog 36 #[.nilIface, .func (.func 37) #[] #[.pointer (some p)]] w fun e w' => e = .returned (.iface t v) ∧ Below w.heap.size w w' := by
  have hmf := mkf
  go_enter_defers Tryd.func36, Tryd.ntmps36
  go_wp2_with (go_at_call 37; (with_reducible refine (c _ (((Below.refl _ _).alloc (Nat.le_refl _) _).alloc (by simp) _)).mono ?_); rintro e w1 ⟨rfl, b1⟩; have hc1 : w1.cell? ⟨w.heap.size + 1, 0, none⟩ = some .nilIface := (by rw [b1.cell (by simp)]; simp); have hf1 : w1.frozen? ⟨w.heap.size + 1, 0, none⟩ = false := (by rw [b1.frozen (by simp)]; simp))
  refine leaves_cons (f := 41) (args := #[.pointer (some ⟨w.heap.size, 0, none⟩), .pointer (some ⟨w.heap.size + 1, 0, none⟩)]) (by simp) (by simp [go_sem]) ?_
  refine (idle41 ⟨w.heap.size, 0, none⟩ ⟨w.heap.size + 1, 0, none⟩ _).mono ?_
  rintro e u' w'' ⟨rfl, rfl, rfl⟩
  have b2 : Below w.heap.size w w1 := ((((Below.refl _ _).alloc (Nat.le_refl _) _).alloc (by simp) _).trans (b1.mono (by simp; omega)))
  have b3 := b2.setCell (p := ⟨w.heap.size + 1, 0, none⟩) (by simp) (.iface t v)
  have hr : (w1.setCell ⟨w.heap.size + 1, 0, none⟩ (.iface t v)).cell? ⟨w.heap.size + 1, 0, none⟩ = some (.iface t v) := World.cell?_setCell_same _ _ _ (by rw [hc1])
  simp [Leaves, settle, results, Tryd.results36, go_sem, hr, b3]

set_option maxHeartbeats 1000000 in
theorem guardN (p : Addr) (w : World)
    (c : ∀ V, Below w.heap.size w V → Calls Tryd.prog 37 #[.pointer (some p)] V fun e V' => e = .returned .nilIface ∧ Below V.heap.size V V') :
    Calls Tryd.prog 36 #[.nilIface, .func (.func 37) #[] #[.pointer (some p)]] w fun e w' => e = .returned .nilIface ∧ Below w.heap.size w w' := by
  have hmf := mkf
  go_enter_defers Tryd.func36, Tryd.ntmps36
  go_wp2_with (go_at_call 37; (with_reducible refine (c _ (((Below.refl _ _).alloc (Nat.le_refl _) _).alloc (by simp) _)).mono ?_); rintro e w1 ⟨rfl, b1⟩; have hc1 : w1.cell? ⟨w.heap.size + 1, 0, none⟩ = some .nilIface := (by rw [b1.cell (by simp)]; simp); have hf1 : w1.frozen? ⟨w.heap.size + 1, 0, none⟩ = false := (by rw [b1.frozen (by simp)]; simp))
  refine leaves_cons (f := 41) (args := #[.pointer (some ⟨w.heap.size, 0, none⟩), .pointer (some ⟨w.heap.size + 1, 0, none⟩)]) (by simp) (by simp [go_sem]) ?_
  refine (idle41 ⟨w.heap.size, 0, none⟩ ⟨w.heap.size + 1, 0, none⟩ _).mono ?_
  rintro e u' w'' ⟨rfl, rfl, rfl⟩
  have b2 : Below w.heap.size w w1 := ((((Below.refl _ _).alloc (Nat.le_refl _) _).alloc (by simp) _).trans (b1.mono (by simp; omega)))
  have b3 := b2.setCell (p := ⟨w.heap.size + 1, 0, none⟩) (by simp) .nilIface
  have hr : (w1.setCell ⟨w.heap.size + 1, 0, none⟩ .nilIface).cell? ⟨w.heap.size + 1, 0, none⟩ = some .nilIface := World.cell?_setCell_same _ _ _ (by rw [hc1])
  simp [Leaves, settle, results, Tryd.results36, go_sem, hr, b3]

end Go.Proofs.YtfbnnofmplakjaaDoor
