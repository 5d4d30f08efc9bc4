
/- Contract: an item, of any array, at any index. -/

import Derived.Test.YtldhochafkcpiaaGreatA4
import Derived.Handy
import Derived.Deep.RegionHeld3
import Derived.Test.YtldhochafkcpiaaGreatMath2


namespace Go.Proofs.YtldhochafkcpiaaGreat

open Go.RowKit

set_option linter.unusedVariables false

theorem num1 {n : Int} (h1 : -9223372036854775808 ≤ n) (h2 : n ≤ 9223372036854775807) : ∀ k, k < [n].length → -9223372036854775808 ≤ nth [n] k ∧ nth [n] k ≤ 9223372036854775807 := by
  intro k hk
  simp at hk
  subst hk; exact ⟨h1, h2⟩

end Go.Proofs.YtldhochafkcpiaaGreat



namespace Go.Proofs.YtldhochafkcpiaaGreat

open Go.RowKit

set_option linter.unusedVariables false

theorem wrapIn (n : Int) (h : -9223372036854775808 ≤ n ∧ n ≤ 9223372036854775807) : IntKind.i64.wrap n = n := by rw [IntKind.wrap_i64]; omega

theorem Rd.part {w : World} {b off n lo hi z : Nat} {zs : List Int} (h : Rd w (some ⟨b, off, none⟩) n zs) (h1 : lo + z = hi) (h2 : hi ≤ n) : Rd w (some ⟨b, off + lo, none⟩) (hi - lo) ((zs.drop lo).take z) := by
  have := (h.dropAt lo (by omega)).take z (by omega)
  rwa [show hi - lo = z by omega]
theorem Rd.lt {w : World} {ao : Option Addr} {n : Nat} {zs : List Int} (h : Rd w ao n zs) (h0 : 0 < n) : ∀ b off, ao = some ⟨b, off, none⟩ → b < w.heap.size := by
  rintro b off rfl
  obtain ⟨b', off', e, hb, _⟩ := h.cells h0
  cases e; exact hb

end Go.Proofs.YtldhochafkcpiaaGreat



namespace Go.Proofs.YtldhochafkcpiaaGreat

open Go.RowKit

set_option linter.unusedVariables false

theorem tal_bd {sh : List Int} (h : mayF sh = 0) : 0 ≤ tal sh ∧ tal sh ≤ 4096 := by
  unfold tal
  by_cases c : sh.length = 0
  · rw [if_pos c]; omega
  · rw [if_neg c]; exact nth_small h (by omega)
theorem at_len {sh at' : List Int} (h : mayA sh at' = 0) : at'.length ≤ 4096 := by
  obtain ⟨h1, h2⟩ := mayA_zero h
  have := pr_small h1 sh.length (Nat.le_refl _)
  rw [List.take_length] at this
  omega
theorem apart_nil (o : Option Addr) : apart none o := fun a b h => by cases h

end Go.Proofs.YtldhochafkcpiaaGreat
