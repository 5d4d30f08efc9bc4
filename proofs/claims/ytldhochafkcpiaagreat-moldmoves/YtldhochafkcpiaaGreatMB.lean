
/- Contracts of package mold: an axis, and where it leads. -/

import Derived.Test.YtldhochafkcpiaaGreatMA

namespace Go.Proofs.YtldhochafkcpiaaGreat

open Go.RowKit

set_option linter.unusedVariables false

theorem wr {z : Int} (h1 : -9223372036854775808 ≤ z) (h2 : z ≤ 9223372036854775807) : IntKind.i64.wrap z = z := wrapIn _ (by omega)
theorem mul_bd {q : Int} {s : Nat} (h0 : 0 ≤ q) (h1 : q ≤ 4096) (hs : s ≤ 4096) : 0 ≤ q * (s : Int) ∧ q * (s : Int) ≤ 16777216 := by
  have := Int.mul_le_mul h1 (show (s : Int) ≤ 4096 by omega) (by omega) (by omega)
  have := Int.mul_nonneg h0 (show (0 : Int) ≤ s by omega)
  omega

def algQ (wid stp : Nat) (p q : Int) : Int := if p = -1 ∨ q < 0 ∨ (wid : Int) ≤ q then -1 else p + q * (stp : Int)
theorem alg_q {wid stp i : Nat} {f : Nat → Int} {p q : Int} (h : f i = q) : alg ⟨0, wid, stp, f⟩ p i = algQ wid stp p q := by subst h; rfl

/-- The three ways by which an index comes from another one. -/
def shV (g : Nat) : Value := .func (.func 107) #[] #[.pointer (some ⟨g, 0, none⟩)]
theorem shF_any (g : Nat) (d i : Int) (w : World) (hg : w.cell? ⟨g, 0, none⟩ = some (.int .i64 d)) (h1 : -1000000 ≤ d) (h2 : d ≤ 1000000) (i1 : 0 ≤ i) (i2 : i ≤ 1000000) :
    Calls Tryz.prog 107 #[.int .i64 i, .pointer (some ⟨g, 0, none⟩)] w fun e w' => e = .returned (.int .i64 (i + d)) ∧ w' = w := by
  have hw := wr (z := i + d) (by omega) (by omega)
  go_enter Tryz.func107, Tryz.ntmps107
  go_wp2
  go_ret
  exact ⟨rfl, rfl⟩
set_option maxHeartbeats 1000000 in
/-- Where an axis leads, if its way tells q. -/
theorem along_sh (g : Nat) (L p q : Int) (wid stp i : Nat) (w : World) (hw : wid ≤ 4096) (hs : stp ≤ 4096) (p1 : -1 ≤ p) (p2 : p ≤ 1099511627776) (f : Nat → Int) (hq : f i = q)
    (hf : ∀ W, Below w.heap.size w W → Calls Tryz.prog 107 #[.int .i64 (i : Nat), .pointer (some ⟨g, 0, none⟩)] W fun e w' => e = .returned (.int .i64 q) ∧ w' = W) :
    Calls Tryz.prog 109 #[.agg #[.int .i64 L, .int .i64 (wid : Nat), .int .i64 (stp : Nat), shV g], .int .i64 p, .int .i64 (i : Nat)] w fun e w' => e = .returned (.int .i64 (alg ⟨0, wid, stp, f⟩ p i)) ∧ Below w.heap.size w w' := by
  unfold shV
  have hb := box_below w (.cells #[.int .i64 L, .int .i64 (wid : Nat), .int .i64 (stp : Nat), .func (.func 107) #[] #[.pointer (some ⟨g, 0, none⟩)]] 89)
  have hc := hf _ hb
  clear hf
  rw [alg_q hq]
  clear hq
  by_cases c1 : p = -1
  · subst c1
    rw [show algQ wid stp (-1) q = -1 from if_pos (Or.inl rfl)]
    go_enter Tryz.func109, Tryz.ntmps109
    go_wp2_with (go_at_call 107; (with_reducible refine hc.mono ?_); rintro e w1 ⟨rfl, rfl⟩)
    go_ret
    exact ⟨rfl, hb⟩
  have b1 : (p == -1) = false := by simpa using c1
  by_cases c2 : q < 0
  · rw [show algQ wid stp p q = -1 from if_pos (Or.inr (Or.inl c2))]
    have b2 : decide (q < 0) = true := by simpa using c2
    clear c2 c1
    go_enter Tryz.func109, Tryz.ntmps109
    go_wp2_with (go_at_call 107; (with_reducible refine hc.mono ?_); rintro e w1 ⟨rfl, rfl⟩)
    go_ret
    exact ⟨rfl, hb⟩
  have b2 : decide (q < 0) = false := by simpa using c2
  by_cases c3 : (wid : Int) ≤ q
  · rw [show algQ wid stp p q = -1 from if_pos (Or.inr (Or.inr c3))]
    have b3 : decide ((wid : Int) ≤ q) = true := by simpa using c3
    clear c2 c1 c3
    go_enter Tryz.func109, Tryz.ntmps109
    go_wp2_with (go_at_call 107; (with_reducible refine hc.mono ?_); rintro e w1 ⟨rfl, rfl⟩)
    go_ret
    exact ⟨rfl, hb⟩
  · rw [show algQ wid stp p q = p + q * (stp : Int) from if_neg (by omega)]
    have b3 : decide ((wid : Int) ≤ q) = false := by simpa using c3
    obtain ⟨m0, m1⟩ := mul_bd (q := q) (s := stp) (by omega) (by omega) hs
    have w1 := wr (z := q * (stp : Int)) (by omega) (by omega)
    have w2 := wr (z := p + q * (stp : Int)) (by omega) (by omega)
    clear c2 c1 c3 m0 m1
    go_enter Tryz.func109, Tryz.ntmps109
    go_wp2_with (go_at_call 107; (with_reducible refine hc.mono ?_); rintro e w1 ⟨rfl, rfl⟩)
    go_ret
    exact ⟨rfl, hb⟩

/-- A way of an axis: it leads as f tells wherever these blocks are as they are. -/
def Way (W : World) (bs : List Nat) (wid stp : Nat) (f : Nat → Int) (v : Value) : Prop :=
  ∀ W', (∀ b, b ∈ bs → W'.heap[b]? = W.heap[b]?) → ∀ (L p : Int) (i : Nat), -1 ≤ p → p ≤ 1099511627776 → i ≤ 4096 → Calls Tryz.prog 109 #[.agg #[.int .i64 L, .int .i64 (wid : Nat), .int .i64 (stp : Nat), v], .int .i64 p, .int .i64 (i : Nat)] W' fun e w' => e = .returned (.int .i64 (alg ⟨0, wid, stp, f⟩ p i)) ∧ Below W'.heap.size W' w'
theorem Way.keep {W W1 : World} {bs : List Nat} {wid stp : Nat} {f : Nat → Int} {v : Value} (h : Way W bs wid stp f v) (hb : ∀ b, b ∈ bs → W1.heap[b]? = W.heap[b]?) : Way W1 bs wid stp f v :=
  fun W' h' L p i p1 p2 hi => h W' (fun b m => (h' b m).trans (hb b m)) L p i p1 p2 hi
theorem cell_same {W W' : World} {b : Nat} (h : W'.heap[b]? = W.heap[b]?) (o : Nat) : W'.cell? ⟨b, o, none⟩ = W.cell? ⟨b, o, none⟩ := by
  simp [World.cell?, h]
theorem cell_keep {W W' W2 : World} {b o : Nat} {v : Value} (hc : W.cell? ⟨b, o, none⟩ = some v) (h : W'.heap[b]? = W.heap[b]?) (k : Below W'.heap.size W' W2) : W2.cell? ⟨b, o, none⟩ = some v := by
  have c1 := (cell_same h o).trans hc
  exact (k.cell (p := ⟨b, o, none⟩) (World.block_lt_of_cell? W' _ c1)).trans c1
theorem way_sh {W : World} {g : Nat} {d : Int} (wid stp : Nat) (hw : wid ≤ 4096) (hs : stp ≤ 4096) (hg : W.cell? ⟨g, 0, none⟩ = some (.int .i64 d)) (h1 : -1000000 ≤ d) (h2 : d ≤ 1000000) : Way W [g] wid stp (fun i => (i : Int) + d) (shV g) :=
  fun W' hb L p i p1 p2 hi => along_sh g L p _ wid stp i W' hw hs p1 p2 (fun i => (i : Int) + d) rfl (fun W2 k => shF_any g d i W2 (cell_keep hg (hb g (by simp)) k) h1 h2 (by omega) (by omega))
theorem shifted_any (d : Int) (w : World) : Calls Tryz.prog 91 #[.int .i64 d] w fun e w' => e = .returned (shV w.heap.size) ∧ w'.cell? ⟨w.heap.size, 0, none⟩ = some (.int .i64 d) ∧ Below w.heap.size w w' := by
  unfold shV
  go_enter Tryz.func91, Tryz.ntmps91
  go_wp2
  go_ret
  exact ⟨rfl, by simp, box_below w _⟩
end Go.Proofs.YtldhochafkcpiaaGreat
