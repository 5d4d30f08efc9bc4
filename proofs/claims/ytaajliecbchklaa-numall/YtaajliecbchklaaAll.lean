/- The walk of the law NumAll: for every script it answers true. -/
import Derived.Test.YtaajliecbchklaaPlays
import Derived.LoopN
import Derived.WalkSmall
namespace Go.Proofs.Ytaajliecbchklaa
open Go.RowKit
set_option linter.unusedVariables false

theorem bcell {W w1 : World} (hb : Below W.heap.size W w1) : (∀ b o, b < W.heap.size → w1.cell? ⟨b, o, none⟩ = W.cell? ⟨b, o, none⟩) :=
  fun b o h => hb.cell (p := ⟨b, o, none⟩) h

theorem all_walk (b off len cap : Nat) (K O X Y : Nat → Int) (w : World) (hb : b < w.heap.size) (hlen : len ≤ 9223372036854775807)
    (hc : ∀ i, i < len → w.cell? ⟨b, off + i * 4, none⟩ = some (.int .i64 (K i)) ∧ w.cell? ⟨b, off + i * 4 + 1, none⟩ = some (.int .i64 (O i)) ∧ w.cell? ⟨b, off + i * 4 + 2, none⟩ = some (.int .i64 (X i)) ∧ w.cell? ⟨b, off + i * 4 + 3, none⟩ = some (.int .i64 (Y i)))
    (hr : ∀ i, i < len → inr (X i) = true ∧ inr (Y i) = true) :
    Calls Try.prog 3 #[.slice (some ⟨b, off, none⟩) len cap] w fun e w' => e = .returned (.bool true) ∧ Below w.heap.size w w' := by
  go_enter Try.func3, Try.ntmps3
  go_wp2_with (go_at_call 8; refine (begun_any _).mono ?_; rintro e w1 ⟨rfl, n, hw⟩; have hb1 : Below w.heap.size w w1 := (by rw [hw]; exact below_drewN (Below.refl _ _) n); clear hw)
  go_loopw [3] (fun i wr => ∃ k : Nat, k ≤ len ∧ i = .int .i64 (k : Nat) ∧ Below w.heap.size w wr) (fun i _ => len - (intOf i).toNat)
  case atStart => exact ⟨0, by omega, rfl, hb1⟩
  case round =>
    obtain ⟨k, hk, rfl, hbw⟩ := hrel
    by_cases hlt : k < len
    · obtain ⟨h0, h1, h2, h3⟩ := hc k hlt
      obtain ⟨r1, r2⟩ := hr k hlt
      have bc := bcell hbw
      rw [← bc b _ hb] at h0 h1 h2 h3
      have hp := fun w => plays_any (K k) (O k) (X k) (Y k) r1 r2 w
      clear bc hc hr
      go_wp2_with (go_at_call 9; refine (hp _).mono ?_; rintro e w2 ⟨rfl, hb2⟩; have hb3 : Below w.heap.size w w2 := hbw.trans (hb2.mono hbw.size); clear hb2 h0 h1 h2 h3)
      go_roundw
      case rel => exact ⟨k + 1, by omega, by go_num, hb3⟩
      case measure => simp [intOf]; omega
    · go_wp2
      go_ret
      exact ⟨rfl, hbw⟩

theorem all_empty (a : Addr) (cap : Nat) (w : World) :
    Calls Try.prog 3 #[.slice (some a) 0 cap] w fun e w' => e = .returned (.bool true) ∧ Below w.heap.size w w' := by
  go_enter Try.func3, Try.ntmps3
  go_wp2_with (go_at_call 8; refine (begun_any _).mono ?_; rintro e w1 ⟨rfl, n, hw⟩; have hb1 : Below w.heap.size w w1 := (by rw [hw]; exact below_drewN (Below.refl _ _) n); clear hw)
  refine wp_loop_rounds 1 ?_
  rw [rounds_succ]
  go_wp2
  go_ret
  exact ⟨rfl, hb1⟩

theorem all_nil (w : World) :
    Calls Try.prog 3 #[.slice none 0 0] w fun e w' => e = .returned (.bool true) ∧ Below w.heap.size w w' := by
  go_enter Try.func3, Try.ntmps3
  go_wp2_with (go_at_call 8; refine (begun_any _).mono ?_; rintro e w1 ⟨rfl, n, hw⟩; have hb1 : Below w.heap.size w w1 := (by rw [hw]; exact below_drewN (Below.refl _ _) n); clear hw)
  refine wp_loop_rounds 1 ?_
  rw [rounds_succ]
  go_wp2
  go_ret
  exact ⟨rfl, hb1⟩
end Go.Proofs.Ytaajliecbchklaa
