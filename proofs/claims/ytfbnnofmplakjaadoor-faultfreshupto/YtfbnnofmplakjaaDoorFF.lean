
/- The text of what In gave. -/

import Derived.Test.YtfbnnofmplakjaaDoorFE

namespace Go.Proofs.YtfbnnofmplakjaaDoor

open Go.RowKit Go.Extern.Stop Go.Stop Go.Extern

set_option linter.unusedVariables false

theorem lk_some {g : Nat} : lkP (.iface 59 (.pointer (some ⟨g, 0, none⟩))) = .pointer (some ⟨g, 0, none⟩) ∧ lkB (.iface 59 (.pointer (some ⟨g, 0, none⟩))) = true := ⟨rfl, rfl⟩
theorem box_below (w : World) (o : Obj) : Below w.heap.size w (w.alloc o) := (Below.refl _ _).alloc (Nat.le_refl _) _

theorem bd_col (W : World) (b : Nat) (l : List UInt8) (h : Bd W b l) (hl : l.length + wCol.length ≤ 140737488355328) :
    Calls Tryd.prog 75 #[.pointer (some ⟨b, 0, none⟩), .string ⟨#[58, 32]⟩] W fun e W' => e = .returned (.tuple #[.int .i64 2, .nilIface]) ∧ Bd W' b (l ++ wCol) ∧ Below b W W' := bd_str W b l wCol h hl
theorem sy_base (b : Bs) (e : Value) (w : World) (h : BaseAt w e b) (T : Tb w) : Sy w e (tx [] b) := by
  obtain ⟨⟨h0, h1⟩, ⟨hk, _, g, rfl, hg⟩ | ⟨hk, g, rfl, hg⟩ | ⟨hk, rfl⟩⟩ := h
  · refine .inr (.inr (.inl ⟨_, rfl, fun V hV => ?_⟩))
    rw [show tx [] b = wErr ++ Lib.itoa b.c ++ wAt ++ Lib.itoa b.p from if_pos hk]
    exact errP g b.c b.p V (heap_at hg hV (Nat.le_refl _)) h0 h1 (T.below hV)
  · refine .inr (.inr (.inr (.inl ⟨_, rfl, fun V hV => ?_⟩)))
    rw [show tx [] b = b.t from (if_neg (by omega)).trans (if_pos hk)]
    exact (errS g b.t V (heap_at hg hV (Nat.le_refl _))).mono fun e V' ⟨h1, h2⟩ => ⟨h1, by rw [h2]; exact Below.refl _ _⟩
  · refine .inr (.inr (.inr (.inr ⟨_, rfl, fun V hV => ?_⟩)))
    rw [show tx [] b = wErr ++ Lib.itoa b.c from (if_neg (by omega)).trans (if_neg (by omega))]
    exact errE b.c V h0 (T.below hV)

/-- Between two rounds: so many links are left. -/
def Nl (w : World) (b : Bs) (whole : List UInt8) (N k : Nat) (e p o : Value) (wr : World) : Prop :=
  ∃ (ls : List Lk) (pre : List UInt8), k = ls.length ∧ k ≤ N + 1 ∧ (lkB e = true ∨ k ≤ N) ∧ Ch w e ls b ∧ p = lkP e ∧ o = .bool (lkB e) ∧ Bd wr w.heap.size pre ∧ pre ++ tx ls b = whole ∧ Below w.heap.size w wr

set_option maxHeartbeats 2000000 in
theorem errN (g : Nat) (nm : List UInt8) (i : Value) (ls : List Lk) (b : Bs) (w : World) (h : w.heap[g]? = some (.cells #[i, .string ⟨nm.toArray⟩] 61 (0, 0))) (hC : Ch w i ls b)
    (hl : (tx (some nm :: ls) b).length ≤ 140737488355328)
    (IH : ∀ (ls' : List Lk) (e : Value), ls'.length ≤ ls.length → (∀ x ∈ ls'.head?, x = none) → Ch w e ls' b → (tx ls' b).length ≤ 140737488355328 → Sy w e (tx ls' b)) :
    Calls Tryd.prog 73 #[.pointer (some ⟨g, 0, none⟩)] w fun e w' => e = .returned (.string ⟨(tx (some nm :: ls) b).toArray⟩) ∧ Below w.heap.size w w' := by
  have hC0 : Ch w (.iface 59 (.pointer (some ⟨g, 0, none⟩))) (some nm :: ls) b := ⟨g, i, rfl, h, hC⟩
  have k0 := ofIn_any w _ _ _ hC0
  rw [lk_some.1, lk_some.2] at k0
  have b0 := bd_new w
  have k1 := box_below w (.cells #[.pointer none, .slice none 0 0] 141)
  have HL : Hid ((some nm :: ls : List Lk).length = ls.length + 1) := rfl
  generalize hW : tx (some nm :: ls) b = whole at *
  generalize hN : ls.length = N at *
  go_enter Tryd.func73, Tryd.ntmps73
  go_wp2_with (go_at_call 28; (with_reducible refine (k0 _).mono ?_); rintro e w1 ⟨rfl, rfl⟩)
  go_loopg [4, 5, 6] (N + 1) (fun k s4 s5 s6 wr => Nl w b whole N k s4 s5 s6 wr)
  case atStart => exact ⟨some nm :: ls, [], HL.out.symm, Nat.le_refl _, .inl rfl, hC0, rfl, rfl, b0, hW, k1⟩
  case round =>
    obtain ⟨ls', pre, hk, hkN, hor, hc, rfl, rfl, hB, hw, hb⟩ := hrel
    clear k0 b0 k1 HL hW hC hC0 h
    by_cases hsome : lkB u4 = true
    · have hcs : ∃ nm' ls'', ls' = some nm' :: ls'' := by
        cases ls' with
        | nil => obtain ⟨_, ⟨_, _, g, rfl, _⟩ | ⟨_, g, rfl, _⟩ | ⟨_, rfl⟩⟩ := hc <;> cases hsome
        | cons x r =>
          cases x with
          | none => obtain ⟨_, _, rfl, _⟩ := hc; cases hsome
          | some nm' => exact ⟨nm', r, rfl⟩
      obtain ⟨nm', ls'', rfl⟩ := hcs
      obtain ⟨g', i', rfl, hg', hc'⟩ := hc
      have kO := ofIn_any w _ _ _ hc'
      have c0 : wr.cell? ⟨g', 0, none⟩ = some i' := cell_of (heap_at hg' hb (Nat.le_refl _)) rfl
      have c1 : wr.cell? ⟨g', 1, none⟩ = some (.string ⟨nm'.toArray⟩) := cell_of (heap_at hg' hb (Nat.le_refl _)) rfl
      have HW : Hid ((pre ++ nm' ++ wCol) ++ tx ls'' b = whole) := by
        show _ = _
        rw [← hw]; simp [tx]
      have hlen : (pre ++ nm' ++ wCol).length ≤ 140737488355328 := by
        rw [← HW.out] at hl; simp only [List.length_append] at hl ⊢; omega
      have HK : Hid (gk = ls''.length + 1) := hk
      have hx := heap_lt hg'
      clear hw hor hk hsome
      have cA := bd_str wr w.heap.size pre nm' hB (by simp only [List.length_append] at hlen; omega)
      rw [lk_some.1, lk_some.2]
      go_wp2_with (first
        | (go_at_call 75; (with_reducible refine cA.mono ?_); rintro e w1 ⟨rfl, B1, j1⟩; have K1 := hb.trans j1; have d0 : w1.cell? ⟨g', 0, none⟩ = some i' := cell_of (heap_at hg' K1 (Nat.le_refl _)) rfl; have cC := bd_col w1 w.heap.size (pre ++ nm') B1 (by simp only [List.length_append] at hlen ⊢; omega))
        | (go_at_call 75; (with_reducible refine cC.mono ?_); rintro e w2 ⟨rfl, B2, j2⟩; have K2 := K1.trans j2; have f0 : w2.cell? ⟨g', 0, none⟩ = some i' := cell_of (heap_at hg' K2 (Nat.le_refl _)) rfl)
        | (go_at_call 28; (with_reducible refine (kO _).mono ?_); rintro e w3 ⟨rfl, rfl⟩))
      go_roundg ls''.length
      case measure => rw [HK.out]; omega
      case rel => exact ⟨ls'', pre ++ nm' ++ wCol, rfl, by have := HK.out; omega, .inr (by have := HK.out; omega), hc', rfl, rfl, B2, HW.out, K2⟩
    · have hno : lkB u4 = false := by simpa using hsome
      have hP : lkP u4 = .pointer none := by
        cases u4 with
        | iface t v =>
          unfold lkB at hno
          unfold lkP
          dsimp only at hno ⊢
          split at hno
          · cases hno
          · rename_i h9; rw [if_neg h9]
        | _ => rfl
      have hkN' : ls'.length ≤ N := by
        rcases hor with h | h
        · exact absurd h hsome
        · omega
      have hh : ∀ x ∈ ls'.head?, x = none := by
        intro x hx
        cases ls' with
        | nil => cases hx
        | cons y r =>
          cases y with
          | none => simpa using hx.symm
          | some nm' => obtain ⟨_, _, rfl, _⟩ := hc; cases hno
      have hlt : pre.length + (tx ls' b).length ≤ 140737488355328 := by rw [← hw] at hl; simpa using hl
      have hS := (IH ls' u4 hkN' hh hc (by omega)).below hb
      have HW : Hid (pre ++ tx ls' b = whole) := hw
      rw [hP, hno]
      clear hw hor hk hkN hsome IH hc hh hP hkN' hl hN
      generalize tx ls' b = t at *
      rcases hS with ⟨v, rfl, c⟩ | ⟨v, rfl, c⟩ | ⟨v, rfl, c⟩ | ⟨v, rfl, c⟩ | ⟨v, rfl, c⟩
      · cases hno
      all_goals
        have hmf := mkf
        clear hno
        first
          | have cG := guardS_O v ⟨#[]⟩ t wr c
          | have cG := guardS_P v ⟨#[]⟩ t wr c
          | have cG := guardS_S v ⟨#[]⟩ t wr c
          | have cG := guardS_E v ⟨#[]⟩ t wr c
        go_wp2_with (first
          | (go_at_call 76; (with_reducible refine cG.mono ?_); rintro e w1 ⟨rfl, j1⟩; have B1 := hB.below j1; have K1 := hb.trans (j1.mono hb.size); have cA := bd_str w1 w.heap.size pre t B1 hlt)
          | (go_at_call 75; (with_reducible refine cA.mono ?_); rintro e w2 ⟨rfl, B2, j2⟩; have K2 := K1.trans j2; have cT := bd_get w2 w.heap.size (pre ++ t) B2)
          | (go_at_call 77; (with_reducible refine cT.mono ?_); rintro e w3 ⟨rfl, j3⟩; have K3 := K2.trans j3))
        (try simp only [Exit.inBlock, Exit.then])
        go_ret
        exact ⟨by rw [HW.out]; rfl, K3⟩

/-- THE TEXT: every error of a chain has it. -/
theorem sy_any (b : Bs) : ∀ (n : Nat) (ls : List Lk) (e : Value) (w : World), ls.length ≤ n → Ch w e ls b → Tb w → (tx ls b).length ≤ 140737488355328 → Sy w e (tx ls b) := by
  intro n
  induction n with
  | zero =>
    intro ls e w hn hc T hl
    obtain rfl : ls = [] := List.length_eq_zero_iff.1 (by omega)
    exact sy_base b e w hc T
  | succ n ih =>
    intro ls e w hn hc T hl
    cases ls with
    | nil => exact sy_base b e w hc T
    | cons x ls =>
      cases x with
      | none =>
        obtain ⟨g, i, rfl, hg, hi⟩ := hc
        refine .inr (.inl ⟨_, rfl, fun V hV => ?_⟩)
        have hl' : (tx ls b).length ≤ 140737488355328 := by simp only [tx, List.length_append] at hl; omega
        exact errO g i (tx ls b) V (heap_at hg hV (Nat.le_refl _)) ((ih ls i w (by simpa using hn) hi T hl').below hV) hl'
      | some nm =>
        obtain ⟨g, i, rfl, hg, hi⟩ := hc
        refine .inl ⟨_, rfl, fun V hV => ?_⟩
        exact errN g nm i ls b V (heap_at hg hV (Nat.le_refl _)) (Ch.below hV (Nat.le_refl _) hi) hl fun ls' e' hle _ hc' hl' => ih ls' e' V (by simp at hn; omega) hc' (T.below hV) hl'
end Go.Proofs.YtfbnnofmplakjaaDoor
