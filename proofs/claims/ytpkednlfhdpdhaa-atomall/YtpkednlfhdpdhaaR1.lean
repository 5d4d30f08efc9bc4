
/- Contracts of the document's own answers for arrays: May, Scalar, List, Items, Rest, Compare, Same. -/

import Derived.Test.YtpkednlfhdpdhaaB5m

namespace Go.Proofs.Ytpkednlfhdpdhaa

open Go.RowKit

set_option linter.unusedVariables false

set_option maxHeartbeats 1000000 in
theorem refMayA_any (so ao : Option Addr) (sn sc an ac : Nat) (sh at' : List Int) (w : World) (h : Rd w so sn sh) (g : Rd w ao an at') :
    Calls Try.prog 55 #[.agg #[.slice so sn sc, .slice ao an ac]] w fun e w' => e = .returned (.int .i64 (mayA sh at')) ∧ Below w.heap.size w w' := by
  have groom := g.room
  have GL : Hid (at'.length = an) := g.len
  have hb := box_below w (.cells #[.slice so sn sc, .slice ao an ac] 30)
  have hz := refSize_any so sn sc sh _ (h.below hb (Nat.le_refl _))
  have bd := sizeF_bd sh
  by_cases h0 : mayF sh = 0
  · rw [h0] at hz
    have H0 : Hid (mayF sh = 0) := h0
    have HP : Hid (sizeF sh = pr sh) := sizeF_ok h0
    clear h0
    generalize sizeF sh = z at *
    by_cases hn : (an : Int) = z
    · have hn' : ((an : Int) != z) = false := by simpa using hn
      have HN : Hid ((an : Int) = z) := hn
      clear hn
      go_enter Try.func55, Try.ntmps55
      go_wp2_with (go_at_call 66; refine hz.mono ?_; rintro e w' ⟨rfl, rfl⟩)
      go_ret
      exact ⟨ret_int (mayA_ok H0.out (by rw [GL.out, HN.out, HP.out])).symm, hb⟩
    · have hn' : ((an : Int) != z) = true := by simpa using hn
      have HN : Hid ((an : Int) ≠ z) := hn
      clear hn
      go_enter Try.func55, Try.ntmps55
      go_wp2_with (go_at_call 66; refine hz.mono ?_; rintro e w' ⟨rfl, rfl⟩)
      go_ret
      exact ⟨ret_int (mayA_no H0.out (by rw [GL.out, ← HP.out]; exact HN.out)).symm, hb⟩
  · have h0' : (mayF sh != 0) = true := by simpa using h0
    have H0 : Hid (mayF sh ≠ 0) := h0
    clear h0
    go_enter Try.func55, Try.ntmps55
    go_wp2_with (go_at_call 66; refine hz.mono ?_; rintro e w' ⟨rfl, rfl⟩)
    go_ret
    exact ⟨ret_int (mayA_sh H0.out).symm, hb⟩

end Go.Proofs.Ytpkednlfhdpdhaa
