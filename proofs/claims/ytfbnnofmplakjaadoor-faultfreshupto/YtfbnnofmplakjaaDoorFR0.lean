
/- What an error begins with, whatever it is. -/

import Derived.Test.YtfbnnofmplakjaaDoorFQ

namespace Go.Proofs.YtfbnnofmplakjaaDoor

open Go.RowKit Go.Extern.Stop Go.Stop Go.Extern

set_option linter.unusedVariables false

theorem begun_live (kind c p : Int) (t : List UInt8) (w : World) (b : Bs) (hb : Bg kind c p t = some b) (h0 : -9223372036854775808 ≤ c ∧ c ≤ 9223372036854775807) (h1 : -9223372036854775808 ≤ p ∧ p ≤ 9223372036854775807) (T : Tb w) :
    Calls Tryd.prog 9 #[.int .i64 kind, .int .i64 c, .int .i64 p, .string ⟨t.toArray⟩] w fun r w' => ∃ e, r = .returned (.tuple #[e, bk b none 0 0 (tx [] b)]) ∧ Ch w' e [] b ∧ Below w.heap.size w w' := by
  unfold Bg at hb
  by_cases k1 : kind = 1
  · subst k1
    rw [if_pos rfl] at hb
    by_cases hc : c = 0
    · rw [if_pos hc] at hb; cases hb
    · rw [if_neg hc] at hb
      obtain rfl := (Option.some.inj hb).symm
      exact begun1 c p _ w hc h0 h1 T
  · rw [if_neg k1] at hb
    by_cases k2 : kind = 2
    · subst k2
      rw [if_pos rfl] at hb
      obtain rfl := (Option.some.inj hb).symm
      exact begun2 c p t w
    · rw [if_neg k2] at hb
      by_cases k3 : kind = 3
      · subst k3
        rw [if_pos rfl] at hb
        obtain rfl := (Option.some.inj hb).symm
        exact begun3 c p _ w h0 T
      · rw [if_neg k3] at hb; cases hb
theorem begun_none (kind c p : Int) (t : List UInt8) (w : World) (hb : Bg kind c p t = none) (h1 : -9223372036854775808 ≤ p ∧ p ≤ 9223372036854775807) (T : Tb w) :
    Calls Tryd.prog 9 #[.int .i64 kind, .int .i64 c, .int .i64 p, .string ⟨t.toArray⟩] w fun r w' => ∃ c q dt, r = .returned (.tuple #[.nilIface, .agg #[.bool false, .int .i64 c, .int .i64 q, .slice none 0 0, .string ⟨dt.toArray⟩]]) ∧ (dt : List UInt8).length ≤ 60 ∧ Below w.heap.size w w' := by
  unfold Bg at hb
  by_cases k1 : kind = 1
  · subst k1
    rw [if_pos rfl] at hb
    by_cases hc : c = 0
    · subst hc
      exact begun1z p _ w h1 T
    · rw [if_neg hc] at hb; cases hb
  · rw [if_neg k1] at hb
    by_cases k2 : kind = 2
    · rw [if_pos k2] at hb; cases hb
    · rw [if_neg k2] at hb
      by_cases k3 : kind = 3
      · rw [if_pos k3] at hb; cases hb
      · exact begun0 kind c p _ w k1 k2 k3
theorem tx_base {w : World} {e : Value} {b : Bs} (h : Ch w e [] b) (ht : b.t.length ≤ 140737488351232) : (tx [] b).length ≤ 140737488351300 := by
  obtain ⟨⟨h0, h1⟩, h⟩ := h
  have q0 := itoa_le b.c h0
  have q1 := itoa_le b.p h1
  show (txB b).length ≤ _
  unfold txB
  split
  · simp [wErr, wAt]; omega
  · split
    · omega
    · simp [wErr]; omega
/-- The first book in its box. -/
theorem Lp.first {w w2 : World} {b : Bs} {e : Value} (h : Ch w2 e [] b) (hb : Below w.heap.size w w2) (ht : b.t.length ≤ 140737488351232) (sz : Nat) (hsz : sz ≤ 562949953421312) : Lp w w2.heap.size b 0 e sz (w2.alloc (.cells #[.bool true, .int .i64 (cdE b), .int .i64 (plc b), .slice none 0 0, .string ⟨(tx [] b).toArray⟩] 29)) := by
  have hk := box_below w2 (.cells #[.bool true, .int .i64 (cdE b), .int .i64 (plc b), .slice none 0 0, .string ⟨(tx [] b).toArray⟩] 29)
  have := tx_base h ht
  exact ⟨[], none, 0, 0, Ch.below hk (Nat.le_refl _) h, Nat.le_refl _, World.ownsRow_nil _ _ _ _, new_blk _ _, hb.size, hsz, by omega, hb.trans (hk.mono hb.size)⟩
end Go.Proofs.YtfbnnofmplakjaaDoor
