/- Contracts of api.Errno's Error at 14, 0 and -3: the texts. -/
import Derived.Test.YtaajliecbchklaaDoorShelf
import Derived.WalkKit
import Derived.WalkSpells
import Derived.WalkLawsBesides
import Derived.Lib.AppendIntMem
namespace Go.Proofs.YtaajliecbchklaaDoor
open Go.RowKit
set_option linter.unusedVariables false

def t14 : ByteArray := ⟨#[101, 114, 114, 111, 114, 32, 49, 52]⟩
def t0 : ByteArray := ⟨#[101, 114, 114, 111, 114, 32, 48]⟩
def t3 : ByteArray := ⟨#[101, 114, 114, 111, 114, 32, 45, 51]⟩
theorem ret_str {a b : ByteArray} (h : a = b) : Ending.returned (.string a) = .returned (.string b) := by rw [h]

theorem text14 (w : World) :
    Calls Tryd.prog 5 #[.int .i64 14] w fun e w' => e = .returned (.string t14) ∧ w' = w := by
  have c : ∀ w, Calls Tryd.prog 6 #[.int .i64 14] w fun e w' => e = .returned (.string ⟨#[49, 52]⟩) ∧ w' = w := by
    intro w
    have h := Tryd.strconv_Itoa_small 14 (by omega) w
    have e : (Lib.decDigits 14).toArray = #[49, 52] := by rw [Lib.decDigits, dif_neg (by omega), Lib.decDigits, dif_pos (by omega)]; rfl
    rw [e] at h
    exact h
  go_enter Tryd.func5, Tryd.ntmps5
  go_wp2_with (go_at_call 6; (with_reducible refine (c _).mono ?_); rintro e w' ⟨rfl, rfl⟩)
  go_ret
  exact ⟨ret_str (by decide +kernel), rfl⟩

theorem text0 (w : World) :
    Calls Tryd.prog 5 #[.int .i64 0] w fun e w' => e = .returned (.string t0) ∧ w' = w := by
  have c : ∀ w, Calls Tryd.prog 6 #[.int .i64 0] w fun e w' => e = .returned (.string ⟨#[48]⟩) ∧ w' = w := by
    intro w
    have h := Tryd.strconv_Itoa_small 0 (by omega) w
    have e : (Lib.decDigits 0).toArray = #[48] := by rw [Lib.decDigits, dif_pos (by omega)]; rfl
    rw [e] at h
    exact h
  go_enter Tryd.func5, Tryd.ntmps5
  go_wp2_with (go_at_call 6; (with_reducible refine (c _).mono ?_); rintro e w' ⟨rfl, rfl⟩)
  go_ret
  exact ⟨ret_str (by decide +kernel), rfl⟩

theorem text3 (w : World) (htab : Lib.TabIs Tryd.prog w "internal/strconv.uint64pow10" .u64 Lib.pow10Tab) :
    Calls Tryd.prog 5 #[.int .i64 (-3)] w fun e w' => e = .returned (.string t3) ∧ Below w.heap.size w w' := by
  have c : Calls Tryd.prog 6 #[.int .i64 (-3)] w fun e w' => e = .returned (.string ⟨#[45, 51]⟩) ∧ Below w.heap.size w w' := by
    have h := Tryd.strconv_Itoa (-3) (by omega) (by omega) w htab
    have e : (Lib.itoa (-3)).toArray = #[45, 51] := by
      unfold Lib.itoa
      rw [if_pos (by omega)]
      rw [Lib.decDigits, dif_pos (by decide)]; rfl
    rw [e] at h
    exact h.mono fun e w' ⟨he, k, os, hw⟩ => ⟨he, by rw [hw]; exact Lib.below_grow _ _ (Nat.le_refl _) _ _⟩
  go_enter Tryd.func5, Tryd.ntmps5
  go_wp2_with (go_at_call 6; (with_reducible refine c.mono ?_); rintro e w' ⟨rfl, hb⟩)
  go_ret
  exact ⟨ret_str (by decide +kernel), hb⟩
end Go.Proofs.YtaajliecbchklaaDoor
