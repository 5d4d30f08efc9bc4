
/- Errors that wrap one another, in memory; what makes them. -/

import Derived.Test.YtfbnnofmplakjaaDoorFB

import Derived.Test.YtfbnnofmplakjaaDoorFS

import Derived.Lib.ItoaLen

import Derived.Deep.RegionHeld3

import Derived.Laws.Strings

import Derived.Laws.Concat

namespace Go.Proofs.YtfbnnofmplakjaaDoor

open Go.RowKit Go.Extern.Stop Go.Stop Go.Extern

set_option linter.unusedVariables false

/-- A link of a chain: a name, or another package's wrapping. -/
abbrev Lk := Option (List UInt8)
/-- What a chain begins with: 1 a number with a place, 2 a text, 3 a number alone. -/
structure Bs where
  k : Nat
  c : Int
  p : Int
  t : List UInt8

def BaseAt (w : World) (e : Value) (b : Bs) : Prop :=
  ((-9223372036854775808 ≤ b.c ∧ b.c ≤ 9223372036854775807) ∧ (-9223372036854775808 ≤ b.p ∧ b.p ≤ 9223372036854775807)) ∧
  ((b.k = 1 ∧ b.c ≠ 0 ∧ ∃ g, e = .iface 76 (.pointer (some ⟨g, 0, none⟩)) ∧ w.heap[g]? = some (.cells #[.int .i64 b.c, .int .i64 b.p] 78 (0, 0))) ∨
   (b.k = 2 ∧ ∃ g, e = .iface 81 (.pointer (some ⟨g, 0, none⟩)) ∧ w.heap[g]? = some (.cells #[.string ⟨b.t.toArray⟩] 83 (0, 0))) ∨
   (b.k = 3 ∧ e = .iface 22 (.int .i64 b.c)))

def Ch (w : World) : Value → List Lk → Bs → Prop
  | e, [], b => BaseAt w e b
  | e, some nm :: ls, b => ∃ g i, e = .iface 59 (.pointer (some ⟨g, 0, none⟩)) ∧ w.heap[g]? = some (.cells #[i, .string ⟨nm.toArray⟩] 61 (0, 0)) ∧ Ch w i ls b
  | e, none :: ls, b => ∃ g i, e = .iface 52 (.pointer (some ⟨g, 0, none⟩)) ∧ w.heap[g]? = some (.cells #[i] 54 (0, 0)) ∧ Ch w i ls b

theorem heap_lt {w : World} {g : Nat} {o : Obj} (h : w.heap[g]? = some o) : g < w.heap.size := (Array.getElem?_eq_some_iff.1 h).1
theorem heap_at {B : Nat} {w w' : World} {g : Nat} {o : Obj} (h : w.heap[g]? = some o) (k : Below B w w') (hB : w.heap.size ≤ B) : w'.heap[g]? = some o := by
  rw [k.block g (Nat.lt_of_lt_of_le (heap_lt h) hB)]; exact h
theorem BaseAt.below {B : Nat} {w w' : World} {e : Value} {b : Bs} (h : BaseAt w e b) (k : Below B w w') (hB : w.heap.size ≤ B) : BaseAt w' e b := by
  obtain ⟨h0, h | h | h⟩ := h
  · obtain ⟨h1, h2, g, h3, h4⟩ := h
    exact ⟨h0, .inl ⟨h1, h2, g, h3, heap_at h4 k hB⟩⟩
  · obtain ⟨h1, g, h3, h4⟩ := h
    exact ⟨h0, .inr (.inl ⟨h1, g, h3, heap_at h4 k hB⟩)⟩
  · exact ⟨h0, .inr (.inr h)⟩
theorem Ch.below {B : Nat} {w w' : World} {b : Bs} (k : Below B w w') (hB : w.heap.size ≤ B) : ∀ {ls : List Lk} {e : Value}, Ch w e ls b → Ch w' e ls b
  | [], _, h => BaseAt.below h k hB
  | some _ :: _, _, ⟨g, i, h1, h2, h3⟩ => ⟨g, i, h1, heap_at h2 k hB, Ch.below k hB h3⟩
  | none :: _, _, ⟨g, i, h1, h2, h3⟩ => ⟨g, i, h1, heap_at h2 k hB, Ch.below k hB h3⟩
theorem Ch.base {w : World} {b : Bs} : ∀ {ls : List Lk} {e : Value}, Ch w e ls b → ∃ i, BaseAt w i b
  | [], e, h => ⟨e, h⟩
  | some _ :: _, _, ⟨_, _, _, _, h⟩ => Ch.base h
  | none :: _, _, ⟨_, _, _, _, h⟩ => Ch.base h
theorem Ch.iface {w : World} {b : Bs} {ls : List Lk} {e : Value} (h : Ch w e ls b) : ∃ T v, e = .iface T v := by
  cases ls with
  | nil =>
    obtain ⟨_, ⟨_, _, g, h3, _⟩ | ⟨_, g, h3, _⟩ | ⟨_, h3⟩⟩ := h <;> exact ⟨_, _, h3⟩
  | cons x ls =>
    cases x with
    | none => obtain ⟨g, i, h1, _⟩ := h; exact ⟨_, _, h1⟩
    | some nm => obtain ⟨g, i, h1, _⟩ := h; exact ⟨_, _, h1⟩

/-- The words of a number's text. -/
def wErr : List UInt8 := [101, 114, 114, 111, 114, 32]
def wAt : List UInt8 := [32, 97, 116, 32]
def wOut : List UInt8 := [111, 117, 116, 101, 114, 32, 111, 102, 32]
def wCol : List UInt8 := [58, 32]
def txB (b : Bs) : List UInt8 := if b.k = 1 then wErr ++ Lib.itoa b.c ++ wAt ++ Lib.itoa b.p else if b.k = 2 then b.t else wErr ++ Lib.itoa b.c
def tx : List Lk → Bs → List UInt8
  | [], b => txB b
  | some nm :: ls, b => nm ++ (wCol ++ tx ls b)
  | none :: ls, b => wOut ++ tx ls b

theorem cell_of {w : World} {g k : Nat} {cs : Array Value} {t : TypeId} {v : Value} (h : w.heap[g]? = some (.cells cs t (0, 0))) (hk : cs[k]? = some v) : w.cell? ⟨g, k, none⟩ = some v := by
  simp [World.cell?, h, hk]
theorem new_blk (w : World) (o : Obj) : (w.alloc o).heap[w.heap.size]? = some o := by
  show (w.heap.push o)[w.heap.size]? = some o
  simp

theorem newF_zero (p : Int) (w : World) : Calls Tryd.prog 17 #[.int .i64 0, .int .i64 p] w fun e w' => e = .returned .nilIface ∧ w' = w := by
  go_enter Tryd.func17, Tryd.ntmps17
  go_wp2
  go_ret
  exact ⟨rfl, rfl⟩
theorem newF_any (c p : Int) (w : World) (hc : c ≠ 0) (h0 : -9223372036854775808 ≤ c ∧ c ≤ 9223372036854775807) (h1 : -9223372036854775808 ≤ p ∧ p ≤ 9223372036854775807) :
    Calls Tryd.prog 17 #[.int .i64 c, .int .i64 p] w fun e w' => ∃ v, e = .returned v ∧ Ch w' v [] ⟨1, c, p, []⟩ ∧ Below w.heap.size w w' := by
  have t : (c == 0) = false := by simp [hc]
  go_enter Tryd.func17, Tryd.ntmps17
  go_wp2
  go_ret
  exact ⟨_, rfl, ⟨⟨h0, h1⟩, .inl ⟨rfl, hc, _, rfl, new_blk _ _⟩⟩, (Below.refl _ _).alloc (Nat.le_refl _) _⟩
theorem newE_any (t : List UInt8) (w : World) :
    Calls Tryd.prog 19 #[.string ⟨t.toArray⟩] w fun e w' => ∃ v, e = .returned v ∧ Ch w' v [] ⟨2, 39, -1, t⟩ ∧ Below w.heap.size w w' := by
  go_enter Tryd.func19, Tryd.ntmps19
  go_wp2
  go_ret
  exact ⟨_, rfl, ⟨by dsimp only; omega, .inr (.inl ⟨rfl, _, rfl, new_blk _ _⟩)⟩, (Below.refl _ _).alloc (Nat.le_refl _) _⟩
theorem in_nil (s : ByteArray) (w : World) : Calls Tryd.prog 13 #[.nilIface, .string s] w fun e w' => e = .returned .nilIface ∧ w' = w := by
  go_enter Tryd.func13, Tryd.ntmps13
  go_wp2
  go_ret
  exact ⟨rfl, rfl⟩
theorem in_any (nm : List UInt8) (w : World) (e : Value) (ls : List Lk) (b : Bs) (h : Ch w e ls b) :
    Calls Tryd.prog 13 #[e, .string ⟨nm.toArray⟩] w fun e' w' => ∃ v, e' = .returned v ∧ Ch w' v (some nm :: ls) b ∧ Below w.heap.size w w' := by
  obtain ⟨T, v, rfl⟩ := h.iface
  go_enter Tryd.func13, Tryd.ntmps13
  go_wp2
  go_ret
  exact ⟨_, rfl, ⟨_, _, rfl, new_blk _ _, h.below ((Below.refl _ _).alloc (Nat.le_refl _) _) (Nat.le_refl _)⟩, (Below.refl _ _).alloc (Nat.le_refl _) _⟩
end Go.Proofs.YtfbnnofmplakjaaDoor
