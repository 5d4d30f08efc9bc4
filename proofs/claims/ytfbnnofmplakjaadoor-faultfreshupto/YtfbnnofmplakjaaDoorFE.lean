
/- The text of an error, through all that it wraps. -/

import Derived.Test.YtfbnnofmplakjaaDoorFD

import Derived.Deep.LoopGhost

namespace Go.Proofs.YtfbnnofmplakjaaDoor

open Go.RowKit Go.Extern.Stop Go.Stop Go.Extern

set_option linter.unusedVariables false

/-- A builder in block b, of the call's own, that holds the bytes l. -/
def Bd (W : World) (b : Nat) (l : List UInt8) : Prop := Lib.IsBuilderF 141 5 b b (Lib.byteCells l) W
theorem bd_new (w : World) : Bd (w.alloc (.cells #[.pointer none, .slice none 0 0] 141)) w.heap.size [] := Lib.IsBuilderF.of (Lib.fresh_isBuilder 141 5 w)
theorem Bd.below {W W' : World} {b : Nat} {l : List UInt8} (h : Bd W b l) (k : Below W.heap.size W W') : Bd W' b l := by
  have key : ∀ p, Lib.BuilderAtF 141 5 b b p (Lib.byteCells l) W → Lib.BuilderAtF 141 5 b b p (Lib.byteCells l) W' := fun p h => by
    have hlt := h.lt
    obtain ⟨hB, v, hb, hown, hne⟩ := h
    exact ⟨hB, v, (k.block b hlt).trans hb, hown.kept (row := none) ⟨k.os, k.tape, k.output, k.size, fun j hj _ => k.block j hj⟩ (by cases hv : v.ownBlock <;> simp), hne⟩
  exact h.elim (fun x => .inl (key _ x)) (fun x => .inr (key _ x))
theorem Bd.lt {W : World} {b : Nat} {l : List UInt8} (h : Bd W b l) : b < W.heap.size := h.elim (fun x => x.lt) (fun x => x.lt)
theorem bc_len (l : List UInt8) : (Lib.byteCells l).length = l.length := by simp [Lib.byteCells]
theorem bd_str (W : World) (b : Nat) (l s : List UInt8) (h : Bd W b l) (hl : l.length + s.length ≤ 140737488355328) :
    Calls Tryd.prog 75 #[.pointer (some ⟨b, 0, none⟩), .string ⟨s.toArray⟩] W fun e W' => e = .returned (.tuple #[.int .i64 (s.length : Int), .nilIface]) ∧ Bd W' b (l ++ s) ∧ Below b W W' := by
  refine (Tryd.Builder_WriteString_k b b (Lib.byteCells l) ⟨s.toArray⟩ W h (by rw [bc_len, bs_size]; exact hl) (Nat.le_of_lt h.lt)).mono ?_
  rintro e W' ⟨rfl, h1, h2, h3⟩
  refine ⟨by rw [bs_size], .inr ?_, h2⟩
  have : Lib.byteCells (l ++ s) = Lib.byteCells l ++ Lib.strCells ⟨s.toArray⟩ := by simp [Lib.byteCells, Lib.strCells]
  rw [this]; exact h1
theorem bd_get (W : World) (b : Nat) (l : List UInt8) (h : Bd W b l) :
    Calls Tryd.prog 77 #[.pointer (some ⟨b, 0, none⟩)] W fun e W' => e = .returned (.string ⟨l.toArray⟩) ∧ Below b W W' :=
  (Tryd.Builder_String_any_k b b l W h (Nat.le_of_lt h.lt)).mono fun e W' ⟨h1, _, h2, _⟩ => ⟨h1, h2⟩

/-- A function that gives a text, whatever came behind w. -/
def Gt (w : World) (f : Nat) (v : Value) (l : List UInt8) : Prop := ∀ V, Below w.heap.size w V → Calls Tryd.prog f #[v] V fun e V' => e = .returned (.string ⟨l.toArray⟩) ∧ Below V.heap.size V V'
/-- The error e has the text l. -/
def Sy (w : World) (e : Value) (l : List UInt8) : Prop :=
  (∃ v, e = .iface 59 v ∧ Gt w 73 v l) ∨ (∃ v, e = .iface 52 v ∧ Gt w 71 v l) ∨ (∃ v, e = .iface 76 v ∧ Gt w 84 v l) ∨ (∃ v, e = .iface 81 v ∧ Gt w 86 v l) ∨ (∃ v, e = .iface 22 v ∧ Gt w 70 v l)
theorem Gt.below {w V : World} {f : Nat} {v : Value} {l : List UInt8} (h : Gt w f v l) (k : Below w.heap.size w V) : Gt V f v l := fun U hU => h U (k.trans (hU.mono k.size))
theorem Sy.below {w V : World} {e : Value} {l : List UInt8} (h : Sy w e l) (k : Below w.heap.size w V) : Sy V e l := by
  rcases h with ⟨v, h1, h2⟩ | ⟨v, h1, h2⟩ | ⟨v, h1, h2⟩ | ⟨v, h1, h2⟩ | ⟨v, h1, h2⟩
  · exact .inl ⟨v, h1, h2.below k⟩
  · exact .inr (.inl ⟨v, h1, h2.below k⟩)
  · exact .inr (.inr (.inl ⟨v, h1, h2.below k⟩))
  · exact .inr (.inr (.inr (.inl ⟨v, h1, h2.below k⟩)))
  · exact .inr (.inr (.inr (.inr ⟨v, h1, h2.below k⟩)))

set_option maxHeartbeats 1000000 in
theorem errO (g : Nat) (i : Value) (l : List UInt8) (w : World) (h : w.heap[g]? = some (.cells #[i] 54 (0, 0))) (hS : Sy w i l) (hl : l.length ≤ 140737488355328) :
    Calls Tryd.prog 71 #[.pointer (some ⟨g, 0, none⟩)] w fun e w' => e = .returned (.string ⟨(wOut ++ l).toArray⟩) ∧ Below w.heap.size w w' := by
  have hc : w.cell? ⟨g, 0, none⟩ = some i := cell_of h rfl
  have q : ¬ 9223372036854775807 < 9 + l.length := by omega
  clear h hl
  rcases hS with ⟨v, rfl, c⟩ | ⟨v, rfl, c⟩ | ⟨v, rfl, c⟩ | ⟨v, rfl, c⟩ | ⟨v, rfl, c⟩
  all_goals
    have m1 := me_N v
    have m2 := me_O v
    have m3 := me_P v
    have m4 := me_S v
    have m5 := me_E v
    replace c := c w (Below.refl _ _)
    go_enter Tryd.func71, Tryd.ntmps71
    go_wp2_with (first
      | (go_at_call 73; (with_reducible refine c.mono ?_); rintro e w1 ⟨rfl, b1⟩)
      | (go_at_call 71; (with_reducible refine c.mono ?_); rintro e w1 ⟨rfl, b1⟩)
      | (go_at_call 84; (with_reducible refine c.mono ?_); rintro e w1 ⟨rfl, b1⟩)
      | (go_at_call 86; (with_reducible refine c.mono ?_); rintro e w1 ⟨rfl, b1⟩)
      | (go_at_call 70; (with_reducible refine c.mono ?_); rintro e w1 ⟨rfl, b1⟩))
    go_ret
    exact ⟨ret_str (bs_app wOut l), b1⟩

def lkP : Value → Value
  | .iface t v => if t = 59 then v else .pointer none
  | _ => .pointer none
def lkB : Value → Bool
  | .iface t v => if t = 59 then true else false
  | _ => false
theorem ofIn_any (w : World) (e : Value) (ls : List Lk) (b : Bs) (h : Ch w e ls b) (V : World) :
    Calls Tryd.prog 28 #[e] V fun r V' => r = .returned (.tuple #[lkP e, .bool (lkB e)]) ∧ V' = V := by
  have hx : (∃ v, e = .iface 59 v) ∨ (∃ v, e = .iface 52 v) ∨ (∃ v, e = .iface 76 v) ∨ (∃ v, e = .iface 81 v) ∨ (∃ v, e = .iface 22 v) := by
    cases ls with
    | nil =>
      obtain ⟨_, ⟨_, _, g, h3, _⟩ | ⟨_, g, h3, _⟩ | ⟨_, h3⟩⟩ := h
      · exact .inr (.inr (.inl ⟨_, h3⟩))
      · exact .inr (.inr (.inr (.inl ⟨_, h3⟩)))
      · exact .inr (.inr (.inr (.inr ⟨_, h3⟩)))
    | cons x ls =>
      cases x with
      | none => obtain ⟨g, i, h1, _⟩ := h; exact .inr (.inl ⟨_, h1⟩)
      | some nm => obtain ⟨g, i, h1, _⟩ := h; exact .inl ⟨_, h1⟩
  clear h
  rcases hx with ⟨v, rfl⟩ | ⟨v, rfl⟩ | ⟨v, rfl⟩ | ⟨v, rfl⟩ | ⟨v, rfl⟩
  all_goals
    have a1 := asN_N v
    have a2 := asN_O v
    have a3 := asN_P v
    have a4 := asN_S v
    have a5 := asN_E v
    go_enter Tryd.func28, Tryd.ntmps28
    go_wp2
    go_ret2
    exact ⟨rfl, rfl⟩
end Go.Proofs.YtfbnnofmplakjaaDoor
