
/- What an error wraps; its place. -/

import Derived.Test.YtfbnnofmplakjaaDoorFF

namespace Go.Proofs.YtfbnnofmplakjaaDoor

open Go.RowKit Go.Extern.Stop Go.Stop Go.Extern

set_option linter.unusedVariables false

theorem unN (g : Nat) (i n : Value) (w : World) (h : w.heap[g]? = some (.cells #[i, n] 61 (0, 0))) (hi : ∃ t v, i = .iface t v) :
    Calls Tryd.prog 74 #[.pointer (some ⟨g, 0, none⟩)] w fun e w' => e = .returned i ∧ w' = w := by
  obtain ⟨t, v, rfl⟩ := hi
  have hc : w.cell? ⟨g, 0, none⟩ = some (.iface t v) := cell_of h rfl
  go_enter Tryd.func74, Tryd.ntmps74
  go_wp2
  go_ret
  exact ⟨rfl, rfl⟩
theorem unO (g : Nat) (i : Value) (w : World) (h : w.heap[g]? = some (.cells #[i] 54 (0, 0))) (hi : ∃ t v, i = .iface t v) :
    Calls Tryd.prog 72 #[.pointer (some ⟨g, 0, none⟩)] w fun e w' => e = .returned i ∧ w' = w := by
  obtain ⟨t, v, rfl⟩ := hi
  have hc : w.cell? ⟨g, 0, none⟩ = some (.iface t v) := cell_of h rfl
  go_enter Tryd.func72, Tryd.ntmps72
  go_wp2
  go_ret
  exact ⟨rfl, rfl⟩
theorem unP (g : Nat) (c p : Int) (w : World) (h : w.heap[g]? = some (.cells #[.int .i64 c, .int .i64 p] 78 (0, 0))) :
    Calls Tryd.prog 85 #[.pointer (some ⟨g, 0, none⟩)] w fun e w' => e = .returned (.iface 22 (.int .i64 c)) ∧ w' = w := by
  have hc : w.cell? ⟨g, 0, none⟩ = some (.int .i64 c) := cell_of h rfl
  go_enter Tryd.func85, Tryd.ntmps85
  go_wp2
  go_ret
  exact ⟨rfl, rfl⟩

/-- What the head of a chain wraps: the chain's next, a number, or nothing. -/
def Nx (w : World) (e : Value) (ls : List Lk) (b : Bs) (r : Value) : Prop :=
  match ls with
  | _ :: ls' => Ch w r ls' b
  | [] => (b.k = 1 ∧ r = .iface 22 (.int .i64 b.c)) ∨ (b.k ≠ 1 ∧ r = .nilIface)

set_option maxHeartbeats 1000000 in
theorem unwrap_any (w : World) (e : Value) (ls : List Lk) (b : Bs) (h : Ch w e ls b) :
    ∃ r, Nx w e ls b r ∧ ∀ V, Below w.heap.size w V → Calls Tryd.prog 38 #[e] V fun x V' => x = .returned r ∧ V' = V := by
  cases ls with
  | nil =>
    obtain ⟨h0, ⟨hk, _, g, rfl, hg⟩ | ⟨hk, g, rfl, hg⟩ | ⟨hk, rfl⟩⟩ := h
    · refine ⟨_, .inl ⟨hk, rfl⟩, fun V hV => ?_⟩
      have m := mu_P (.pointer (some ⟨g, 0, none⟩))
      have a1 := la92_P (.pointer (some ⟨g, 0, none⟩))
      have c := unP g b.c b.p V (heap_at hg hV (Nat.le_refl _))
      clear hg hk hV
      go_enter Tryd.func38, Tryd.ntmps38
      go_wp2_with (go_at_call 85; (with_reducible refine c.mono ?_); rintro e w1 ⟨rfl, rfl⟩)
      go_ret
      exact ⟨rfl, rfl⟩
    · refine ⟨_, .inr ⟨by omega, rfl⟩, fun V hV => ?_⟩
      have a1 := la92_S (.pointer (some ⟨g, 0, none⟩))
      clear hg hk hV
      go_enter Tryd.func38, Tryd.ntmps38
      go_wp2
      go_ret
      exact ⟨rfl, rfl⟩
    · refine ⟨_, .inr ⟨by omega, rfl⟩, fun V hV => ?_⟩
      have a1 := la92_E (.int .i64 b.c)
      clear hk hV
      go_enter Tryd.func38, Tryd.ntmps38
      go_wp2
      go_ret
      exact ⟨rfl, rfl⟩
  | cons x ls =>
    cases x with
    | none =>
      obtain ⟨g, i, rfl, hg, hi⟩ := h
      refine ⟨i, hi, fun V hV => ?_⟩
      have m := mu_O (.pointer (some ⟨g, 0, none⟩))
      have a1 := la92_O (.pointer (some ⟨g, 0, none⟩))
      have c := unO g i V (heap_at hg hV (Nat.le_refl _)) hi.iface
      clear hg hi hV
      go_enter Tryd.func38, Tryd.ntmps38
      go_wp2_with (go_at_call 72; (with_reducible refine c.mono ?_); rintro e w1 ⟨rfl, rfl⟩)
      go_ret
      exact ⟨rfl, rfl⟩
    | some nm =>
      obtain ⟨g, i, rfl, hg, hi⟩ := h
      refine ⟨i, hi, fun V hV => ?_⟩
      have m := mu_N (.pointer (some ⟨g, 0, none⟩))
      have a1 := la92_N (.pointer (some ⟨g, 0, none⟩))
      have c := unN g i _ V (heap_at hg hV (Nat.le_refl _)) hi.iface
      clear hg hi hV
      go_enter Tryd.func38, Tryd.ntmps38
      go_wp2_with (go_at_call 74; (with_reducible refine c.mono ?_); rintro e w1 ⟨rfl, rfl⟩)
      go_ret
      exact ⟨rfl, rfl⟩

theorem Nx.below {w w' : World} {e : Value} {ls : List Lk} {b : Bs} {r : Value} (h : Nx w e ls b r) (k : Below w.heap.size w w') : Nx w' e ls b r := by
  cases ls with
  | nil => exact h
  | cons x ls => exact Ch.below k (Nat.le_refl _) h
theorem Nx.face {w : World} {e : Value} {ls : List Lk} {b : Bs} {r : Value} (h : Nx w e ls b r) : (∃ t v, r = .iface t v) ∨ r = .nilIface := by
  cases ls with
  | nil =>
    rcases h with ⟨_, h⟩ | ⟨_, h⟩
    · exact .inl ⟨_, _, h⟩
    · exact .inr h
  | cons x ls => exact .inl (Ch.iface h)

/-- The closure of next: what is in the box is unwrapped. -/
theorem next1 (V : World) (q : Nat) (e r : Value) (hq : V.cell? ⟨q, 0, none⟩ = some e) (he : ∃ t v, e = .iface t v) (c : Calls Tryd.prog 38 #[e] V fun x V' => x = .returned r ∧ V' = V) :
    Calls Tryd.prog 37 #[.pointer (some ⟨q, 0, none⟩)] V fun x V' => x = .returned r ∧ V' = V := by
  obtain ⟨t, v, rfl⟩ := he
  go_enter Tryd.func37, Tryd.ntmps37
  go_wp2_with (go_at_call 38; (with_reducible refine c.mono ?_); rintro e w1 ⟨rfl, rfl⟩)
  go_ret
  exact ⟨rfl, rfl⟩

set_option maxHeartbeats 1000000 in
theorem next_any (w : World) (e : Value) (ls : List Lk) (b : Bs) (h : Ch w e ls b) :
    Calls Tryd.prog 27 #[e] w fun x w' => ∃ r, x = .returned r ∧ Nx w e ls b r ∧ Below w.heap.size w w' := by
  obtain ⟨r, hN, hc⟩ := unwrap_any w e ls b h
  obtain ⟨t, v, rfl⟩ := h.iface
  have hmf := mkf
  have key : ∀ V, Below (w.alloc (.cells #[.iface t v] 26)).heap.size (w.alloc (.cells #[.iface t v] 26)) V → Calls Tryd.prog 37 #[.pointer (some ⟨w.heap.size, 0, none⟩)] V fun x V' => x = .returned r ∧ Below V.heap.size V V' := fun V hV => by
    refine (next1 V w.heap.size (.iface t v) r ?_ ⟨t, v, rfl⟩ (hc V ?_)).mono fun x V' ⟨h1, h2⟩ => ⟨h1, by rw [h2]; exact Below.refl _ _⟩
    · rw [hV.cell (by simp)]; simp
    · exact (box_below w _).trans (hV.mono (by simp))
  have HN : Hid (Nx w (.iface t v) ls b r) := hN
  have bb := box_below w (.cells #[.iface t v] 26)
  rcases hN.face with ⟨t', v', rfl⟩ | rfl
  · have cG := guardE ⟨w.heap.size, 0, none⟩ t' v' _ key
    clear hN hc h key
    go_enter Tryd.func27, Tryd.ntmps27
    go_wp2_with (go_at_call 36; (with_reducible refine cG.mono ?_); rintro e w1 ⟨rfl, b1⟩)
    go_ret
    exact ⟨_, rfl, HN.out, bb.trans (b1.mono (by simp))⟩
  · have cG := guardN ⟨w.heap.size, 0, none⟩ _ key
    clear hN hc h key
    go_enter Tryd.func27, Tryd.ntmps27
    go_wp2_with (go_at_call 36; (with_reducible refine cG.mono ?_); rintro e w1 ⟨rfl, b1⟩)
    go_ret
    exact ⟨_, rfl, HN.out, bb.trans (b1.mono (by simp))⟩

/-- What an error's type says. -/
theorem Ch.kind {w : World} {e : Value} {ls : List Lk} {b : Bs} (h : Ch w e ls b) : (∃ v, e = .iface 59 v) ∨ (∃ v, e = .iface 52 v) ∨ (∃ v, e = .iface 76 v) ∨ (∃ v, e = .iface 81 v) ∨ (∃ v, e = .iface 22 v) := by
  cases ls with
  | nil =>
    obtain ⟨_, ⟨_, _, g, h3, _⟩ | ⟨_, g, h3, _⟩ | ⟨_, h3⟩⟩ := h
    · exact .inr (.inr (.inl ⟨_, h3⟩))
    · exact .inr (.inr (.inr (.inl ⟨_, h3⟩)))
    · exact .inr (.inr (.inr (.inr ⟨_, h3⟩)))
  | cons x ls =>
    cases x with
    | none => obtain ⟨g, i, h1, _⟩ := h; exact .inr (.inl ⟨_, h1⟩)
    | some nm => obtain ⟨g, i, h1, _⟩ := h; exact .inl ⟨_, h1⟩
def nwP : Value → Value
  | .iface t v => if t = 76 then v else .pointer none
  | _ => .pointer none
def nwB : Value → Bool
  | .iface t v => if t = 76 then true else false
  | _ => false
theorem ofNew_any (w : World) (e : Value) (ls : List Lk) (b : Bs) (h : Ch w e ls b) (V : World) :
    Calls Tryd.prog 33 #[e] V fun r V' => r = .returned (.tuple #[nwP e, .bool (nwB e)]) ∧ V' = V := by
  have hx := h.kind
  clear h
  rcases hx with ⟨v, rfl⟩ | ⟨v, rfl⟩ | ⟨v, rfl⟩ | ⟨v, rfl⟩ | ⟨v, rfl⟩
  all_goals
    have a1 := asP_N v
    have a2 := asP_O v
    have a3 := asP_P v
    have a4 := asP_S v
    have a5 := asP_E v
    go_enter Tryd.func33, Tryd.ntmps33
    go_wp2
    go_ret2
    exact ⟨rfl, rfl⟩
/-- The next one of a chain is a chain of its own. -/
theorem Nx.ch {w : World} {e : Value} {ls : List Lk} {b : Bs} {r : Value} (h : Ch w e ls b) (hN : Nx w e ls b r) : (∃ x ls', ls = x :: ls' ∧ Ch w r ls' b) ∨ (ls = [] ∧ b.k = 1 ∧ Ch w r [] ⟨3, b.c, -1, []⟩) ∨ (ls = [] ∧ b.k ≠ 1 ∧ r = .nilIface) := by
  cases ls with
  | nil =>
    rcases hN with ⟨h1, h2⟩ | ⟨h1, h2⟩
    · exact .inr (.inl ⟨rfl, h1, ⟨h.1.1, by dsimp only; omega⟩, .inr (.inr ⟨rfl, h2⟩)⟩)
    · exact .inr (.inr ⟨rfl, h1, h2⟩)
  | cons x ls => exact .inl ⟨x, ls, rfl, hN⟩
end Go.Proofs.YtfbnnofmplakjaaDoor
