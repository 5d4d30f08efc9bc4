
/- The texts of errors; what they wrap. -/

import Derived.Test.YtfbnnofmplakjaaDoorFC

namespace Go.Proofs.YtfbnnofmplakjaaDoor

open Go.RowKit Go.Extern.Stop Go.Stop Go.Extern

set_option linter.unusedVariables false

/-- What lies in Go's own package variables, as the program's text lays it. -/
def Tb (w : World) : Prop := Lib.TabIs Tryd.prog w "internal/strconv.uint64pow10" .u64 Lib.pow10Tab ∧ w.var? Tryd.prog "errors.errorType" = some #[.iface 87 (.agg #[.pointer (some ⟨4, 26, none⟩)])]
theorem var_below {P : Program} {w w' : World} {name : String} {cs : Array Value} (h : w.var? P name = some cs) (k : Below w.heap.size w w') : w'.var? P name = some cs := by
  unfold World.var? at h ⊢
  cases hg : P.globalNamed name with
  | none => rw [hg] at h; cases h
  | some g =>
    rw [hg] at h
    simp only [Option.bind_some] at h ⊢
    have hl : g < w.heap.size := by
      rcases Nat.lt_or_ge g w.heap.size with h' | h'
      · exact h'
      · rw [Array.getElem?_eq_none h'] at h; cases h
    rw [k.block g hl]
    exact h
theorem Tb.below {w w' : World} (h : Tb w) (k : Below w.heap.size w w') : Tb w' := ⟨var_below h.1 k, var_below h.2 k⟩
theorem Tb.at {B : Nat} {w w' : World} (h : Tb w) (k : Below B w w') (hB : w.heap.size ≤ B) : Tb w' := h.below (k.mono hB)
theorem drewN_belowS (w : World) (n : Nat) : Below w.heap.size w (w.drewN n) := ⟨rfl, rfl, rfl, Nat.le_refl _, fun _ _ => rfl⟩
theorem grow_below (w : World) (os : Array Obj) : Below w.heap.size w (Sort.grow w os) := by
  refine ⟨rfl, rfl, rfl, by simp [Sort.grow], fun k hk => ?_⟩
  simp [Sort.grow, Array.getElem?_append_left hk]
theorem bs_app (a b : List UInt8) : (⟨a.toArray⟩ : ByteArray) ++ ⟨b.toArray⟩ = ⟨(a ++ b).toArray⟩ := by
  apply ByteArray.ext
  simp
theorem bs_size (a : List UInt8) : (⟨a.toArray⟩ : ByteArray).size = a.length := by simp [ByteArray.size]
theorem itoa_any (n : Int) (w : World) (h0 : -9223372036854775808 ≤ n ∧ n ≤ 9223372036854775807) (T : Tb w) :
    Calls Tryd.prog 16 #[.int .i64 n] w fun e w' => e = .returned (.string ⟨(Lib.itoa n).toArray⟩) ∧ Below w.heap.size w w' := by
  refine (Tryd.strconv_Itoa n h0.1 h0.2 w T.1).mono ?_
  rintro e w1 ⟨rfl, k, os, hw⟩
  exact ⟨rfl, by rw [hw]; exact (drewN_belowS w k).trans ((grow_below (w.drewN k) os).mono (by simp))⟩
theorem ret_str {s : ByteArray} {l : List UInt8} (h : s = ⟨l.toArray⟩) : Ending.returned (.string s) = .returned (.string ⟨l.toArray⟩) := by rw [h]
theorem itoa_le (n : Int) (h0 : -9223372036854775808 ≤ n ∧ n ≤ 9223372036854775807) : (Lib.itoa n).length ≤ 21 := by
  have h := Lib.itoa_length_le n h0.1 h0.2
  omega

theorem errE (c : Int) (w : World) (h0 : -9223372036854775808 ≤ c ∧ c ≤ 9223372036854775807) (T : Tb w) :
    Calls Tryd.prog 70 #[.int .i64 c] w fun e w' => e = .returned (.string ⟨(wErr ++ Lib.itoa c).toArray⟩) ∧ Below w.heap.size w w' := by
  have k := itoa_any c w h0 T
  have hl := itoa_le c h0
  generalize Lib.itoa c = l at *
  have hl' : ¬ 9223372036854775807 < 6 + l.length := by omega
  clear hl
  go_enter Tryd.func70, Tryd.ntmps70
  go_wp2_with (go_at_call 16; (with_reducible refine k.mono ?_); rintro e w1 ⟨rfl, b1⟩)
  go_ret
  refine ⟨ret_str ?_, b1⟩
  exact bs_app wErr l
theorem errS (g : Nat) (t : List UInt8) (w : World) (h : w.heap[g]? = some (.cells #[.string ⟨t.toArray⟩] 83 (0, 0))) :
    Calls Tryd.prog 86 #[.pointer (some ⟨g, 0, none⟩)] w fun e w' => e = .returned (.string ⟨t.toArray⟩) ∧ w' = w := by
  have hc : w.cell? ⟨g, 0, none⟩ = some (.string ⟨t.toArray⟩) := cell_of h rfl
  go_enter Tryd.func86, Tryd.ntmps86
  go_wp2
  go_ret
  exact ⟨rfl, rfl⟩

/-- The cells of what New gave. -/
structure Pd (g : Nat) (c p : Int) (w V : World) : Prop where
  bl : Below w.heap.size w V
  at_ : V.heap[g]? = some (.cells #[.int .i64 c, .int .i64 p] 78 (0, 0))
  tb : Tb V
theorem Pd.go {g : Nat} {c p : Int} {w V V' : World} (h : Pd g c p w V) (k : Below V.heap.size V V') : Pd g c p w V' :=
  ⟨h.bl.trans (k.mono h.bl.size), heap_at h.at_ k (Nat.le_refl _), h.tb.below k⟩
theorem Pd.drew {g : Nat} {c p : Int} {w V : World} (h : Pd g c p w V) : Pd g c p w V.drew := h.go ((Below.refl _ _).drew)
def PdS (g : Nat) (c p : Int) (w V : World) : Prop := V.cell? ⟨g, 0, none⟩ = some (.int .i64 c) ∧ V.cell? ⟨g, 1, none⟩ = some (.int .i64 p) ∧ Pd g c p w V
theorem Pd.all {g : Nat} {c p : Int} {w V : World} (h : Pd g c p w V) : V.cell? ⟨g, 0, none⟩ = some (.int .i64 c) ∧ V.cell? ⟨g, 1, none⟩ = some (.int .i64 p) ∧ Pd g c p w V :=
  ⟨cell_of h.at_ rfl, cell_of h.at_ rfl, h⟩
theorem Pd.c70 {g : Nat} {c p : Int} {w V : World} (h : Pd g c p w V) (h0 : -9223372036854775808 ≤ c ∧ c ≤ 9223372036854775807) :
    Calls Tryd.prog 70 #[.int .i64 c] V fun e V' => e = .returned (.string ⟨(wErr ++ Lib.itoa c).toArray⟩) ∧ Pd g c p w V' := by
  refine (errE c V h0 h.tb).mono ?_
  rintro e V' ⟨rfl, b⟩
  exact ⟨rfl, h.go b⟩
theorem Pd.c16 {g : Nat} {c p : Int} {w V : World} (h : Pd g c p w V) (h0 : -9223372036854775808 ≤ p ∧ p ≤ 9223372036854775807) :
    Calls Tryd.prog 16 #[.int .i64 p] V fun e V' => e = .returned (.string ⟨(Lib.itoa p).toArray⟩) ∧ Pd g c p w V' := by
  refine (itoa_any p V h0 h.tb).mono ?_
  rintro e V' ⟨rfl, b⟩
  exact ⟨rfl, h.go b⟩
set_option maxHeartbeats 1000000 in
theorem errP (g : Nat) (c p : Int) (w : World) (h : w.heap[g]? = some (.cells #[.int .i64 c, .int .i64 p] 78 (0, 0))) (h0 : -9223372036854775808 ≤ c ∧ c ≤ 9223372036854775807) (h1 : -9223372036854775808 ≤ p ∧ p ≤ 9223372036854775807) (T : Tb w) :
    Calls Tryd.prog 84 #[.pointer (some ⟨g, 0, none⟩)] w fun e w' => e = .returned (.string ⟨(wErr ++ Lib.itoa c ++ wAt ++ Lib.itoa p).toArray⟩) ∧ Below w.heap.size w w' := by
  have S0 : Pd g c p w w := ⟨Below.refl _ _, h, T⟩
  have k70 : ∀ V, (V.cell? ⟨g, 0, none⟩ = some (.int .i64 c) ∧ V.cell? ⟨g, 1, none⟩ = some (.int .i64 p) ∧ Pd g c p w V) → _ := fun V hV => Pd.c70 hV.2.2 h0
  have k16 : ∀ V, (V.cell? ⟨g, 0, none⟩ = some (.int .i64 c) ∧ V.cell? ⟨g, 1, none⟩ = some (.int .i64 p) ∧ Pd g c p w V) → _ := fun V hV => Pd.c16 hV.2.2 h1
  have hl0 : (wErr ++ Lib.itoa c).length ≤ 27 := by have := itoa_le c h0; simp [wErr]; omega
  have hl1 := itoa_le p h1
  rw [show wErr ++ Lib.itoa c ++ wAt ++ Lib.itoa p = (wErr ++ Lib.itoa c) ++ wAt ++ Lib.itoa p from by simp]
  generalize wErr ++ Lib.itoa c = x at *
  generalize Lib.itoa p = y at *
  have q1 : ¬ 9223372036854775807 < x.length + 4 := by omega
  have q2 : ¬ 9223372036854775807 < x.length + 4 + y.length := by omega
  clear hl0 hl1 h0 h1 h T
  go_enter Tryd.func84, Tryd.ntmps84
  go_wp2
  go_region_held3 (fun V => V.cell? ⟨g, 0, none⟩ = some (.int .i64 c) ∧ V.cell? ⟨g, 1, none⟩ = some (.int .i64 p) ∧ Pd g c p w V) (first | exact Pd.all (by assumption) | exact Pd.all (Pd.drew (by assumption))) (first | (go_at_call 70; (with_reducible refine (k70 _ (by assumption)).mono ?_); rintro e w2 ⟨rfl, T2⟩) | (go_at_call 16; (with_reducible refine (k16 _ (by assumption)).mono ?_); rintro e w2 ⟨rfl, T2⟩))
  go_wp2
  go_ret
  refine ⟨ret_str ?_, T2.bl⟩
  rw [show (⟨#[32, 97, 116, 32]⟩ : ByteArray) = ⟨wAt.toArray⟩ from rfl, bs_app, bs_app]
end Go.Proofs.YtfbnnofmplakjaaDoor
