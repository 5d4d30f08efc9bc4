
/- What the listed variables of Go's own library give: the table of powers and the error out of range. -/

import Derived.Test.YtppcfpiihkaopaaGreatDoorVB

import Derived.Test.YtppcfpiihkaopaaGreatDoorVS

import Derived.Test.YtppcfpiihkaopaaGreatDoorA10

import Derived.Test.YtppcfpiihkaopaaGreatDoorYT

import Derived.Lib.ItoaLen

import Derived.Test.YtppcfpiihkaopaaGreatDoorRows

import Derived.ProofKit

import Derived.LaidMore

import Derived.OpenShut

import Derived.Stop.Joined

import Derived.Stop.LaidErr

import Derived.Lib.LaidTab

namespace Go.Proofs.YtppcfpiihkaopaaGreatDoor

open Go.RowKit Go.Lib

set_option linter.unusedVariables false

/-- What lies in Go's own package variables, as the program's text lays it. -/
structure Tb (w : World) : Prop where
  tab : Lib.TabIs Tryz.prog w "internal/strconv.uint64pow10" .u64 Lib.pow10Tab
  er : ∃ tp p, w.var? Tryz.prog "strconv.ErrRange" = some #[.iface tp p]
theorem var_below {P : Program} {w w' : World} {name : String} {cs : Array Value} (h : w.var? P name = some cs) (k : Below w.heap.size w w') : w'.var? P name = some cs := by
  unfold World.var? at h ⊢
  cases hg : P.globalNamed name with
  | none => rw [hg] at h; cases h
  | some g =>
    rw [hg] at h
    simp only [Option.bind_some] at h ⊢
    have hl : g < w.heap.size := by
      rcases Nat.lt_or_ge g w.heap.size with h' | h'
      · exact h'
      · rw [Array.getElem?_eq_none h'] at h; cases h
    rw [k.block g hl]
    exact h
theorem Tb.below {w w' : World} (h : Tb w) (k : Below w.heap.size w w') : Tb w' := by
  obtain ⟨tp, p, e⟩ := h.er
  exact ⟨var_below h.tab k, tp, p, var_below e k⟩
theorem Tb.at {B : Nat} {w w' : World} (h : Tb w) (k : Below B w w') (hB : w.heap.size ≤ B) : Tb w' := h.below (k.mono hB)
theorem drewN_belowS (w : World) (n : Nat) : Below w.heap.size w (w.drewN n) := ⟨rfl, rfl, rfl, Nat.le_refl _, fun _ _ => rfl⟩
theorem grow_below (w : World) (os : Array Obj) : Below w.heap.size w (Sort.grow w os) := by
  refine ⟨rfl, rfl, rfl, by simp [Sort.grow], fun k hk => ?_⟩
  simp [Sort.grow, Array.getElem?_append_left hk]

theorem bs_app (a b : List UInt8) : (⟨a.toArray⟩ : ByteArray) ++ ⟨b.toArray⟩ = ⟨(a ++ b).toArray⟩ := by
  apply ByteArray.ext
  simp
theorem bs_size (a : List UInt8) : (⟨a.toArray⟩ : ByteArray).size = a.length := by simp [ByteArray.size]
theorem bs_cut (a : List UInt8) (i j : Nat) : (⟨a.toArray⟩ : ByteArray).extract i j = ⟨((a.drop i).take (j - i)).toArray⟩ := by
  apply ByteArray.ext
  rw [ByteArray.data_extract]
  apply Array.ext'
  simp
theorem ret_str {v : Value} {l : List UInt8} (h : v = .string ⟨l.toArray⟩) : Ending.returned v = .returned (.string ⟨l.toArray⟩) := by rw [h]
theorem wr_len (n : Int) (h0 : -9223372036854775808 ≤ n) (h1 : n ≤ 9223372036854775807) : (wrt n).length ≤ 21 := by
  have h := Lib.itoa_length_le n h0 h1
  unfold Lib.itoa at h
  unfold wrt
  split <;> split at h <;> simp_all

set_option maxHeartbeats 1000000 in
theorem written_any (n : Int) (w : World) (h0 : -9223372036854775808 ≤ n) (h1 : n ≤ 9223372036854775807) (T : Tb w) :
    Calls Tryz.prog 39 #[.int .i64 n] w fun e w' => e = .returned (.string ⟨(wrt n).toArray⟩) ∧ Below w.heap.size w w' := by
  have c := Tryz.strconv_FormatInt_10 n h0 h1 w T.tab
  have hl := wr_len n h0 h1
  by_cases hn : n < 0
  · have t : decide (n < 0) = true := by simp [hn]
    have HW : Hid (wrt n = 95 :: decDigits n.natAbs) := if_pos hn
    rw [show itoa n = 45 :: decDigits n.natAbs from if_pos hn] at c
    have hl' : ¬ 9223372036854775807 < 1 + (decDigits n.natAbs).length := by rw [HW.out, List.length_cons] at hl; omega
    clear hn hl
    go_enter Tryz.func39, Tryz.ntmps39
    go_wp2_with (go_at_call 51; (with_reducible refine c.mono ?_); rintro e w1 ⟨rfl, k, os, hw⟩; have b1 : Below w.heap.size w w1 := (by rw [hw]; exact (drewN_belowS w k).trans ((grow_below (w.drewN k) os).mono (by simp))); clear hw)
    go_ret
    refine ⟨ret_str ?_, b1⟩
    show Value.string _ = _
    rw [bs_cut, bs_app _ _, HW.out]
    simp
  · have t : decide (n < 0) = false := by simp [hn]
    have HW : Hid (wrt n = decDigits n.toNat) := if_neg hn
    rw [show itoa n = decDigits n.toNat from if_neg hn] at c
    clear hn hl
    go_enter Tryz.func39, Tryz.ntmps39
    go_wp2_with (go_at_call 51; (with_reducible refine c.mono ?_); rintro e w1 ⟨rfl, k, os, hw⟩; have b1 : Below w.heap.size w w1 := (by rw [hw]; exact (drewN_belowS w k).trans ((grow_below (w.drewN k) os).mono (by simp))); clear hw)
    go_ret
    exact ⟨ret_str (by rw [HW.out]; rfl), b1⟩
end Go.Proofs.YtppcfpiihkaopaaGreatDoor

namespace Go.Proofs.YtppcfpiihkaopaaGreatDoor

open Go.ChangeShapes Go.WideShapes Go.ChangeAt Go.RowKit

set_option linter.unusedVariables false

theorem gTab : Tryz.prog.globalNamed "internal/strconv.uint64pow10" = some 0 := by kernel_rfl
theorem tTab : (Tryz.prog.globals[0]?).map (·.type) = some 134 := by kernel_rfl
theorem cellsE : Tryz.prog.cellsOf 110 = 1 := by kernel_rfl
theorem cellsT : Tryz.prog.cellsOf 134 = 20 := by kernel_rfl
theorem gErr : Tryz.prog.globalNamed "strconv.ErrRange" = some 3 := by kernel_rfl
theorem tErr : (Tryz.prog.globals[3]?).map (·.type) = some 75 := by kernel_rfl
theorem cellsS : Tryz.prog.cellsOf 146 = 1 := by kernel_rfl
theorem cells9 : Tryz.prog.cellsOf 9 = 1 := by kernel_rfl
theorem starS : "*" ++ "errors.errorString" = "*errors.errorString" := by decide
theorem rowErr (u : TypeId) (h : Tryz.prog.typeName? 3 u = some "*errors.errorString") : u = 144 :=
  typeName_ptr_named (nm := "errors.errorString") (by rw [starS]; kernel_rfl) (by kernel_rfl) (by decide) u (by rw [starS]; exact h)
def laid5 : List (String × DataW Unit) := [("math/bits.deBruijn32tab", Rows.laid_math_bits_deBruijn32tab), ("math/bits.deBruijn64tab", Rows.laid_math_bits_deBruijn64tab), ("internal/strconv.uint64pow10", Rows.laid_internal_strconv_uint64pow10), ("strconv.ErrRange", Rows.laid_strconv_ErrRange), ("strconv.ErrSyntax", Rows.laid_strconv_ErrSyntax)]
theorem door_met (os : Os) (args : Array Value) : laidMetH Tryz.prog laid5 ((World.doorLaid Tryz.prog 400 os).forCall (fun _ _ => 0) ⟨#[], args, []⟩).memory :=
  laidMetH_of_parts3 (fuel := 8) (laidMet_of_run' 8 (by kernel_rfl) (by kernel_rfl)) (by kernel_rfl) (by kernel_rfl)
theorem tb_of_laid {W : World} (h : laidMetH Tryz.prog laid5 W) : Tb W := by
  rw [MakeChecks.laidMetH_plain _ _ _ (by kernel_rfl)] at h
  have h2 : laidMet Tryz.prog [("internal/strconv.uint64pow10", Lib.tabData .u64 Lib.pow10Tab), ("strconv.ErrRange", Rows.laid_strconv_ErrRange), ("strconv.ErrSyntax", Rows.laid_strconv_ErrSyntax)] W := h.tail.tail
  have h3 : laidMet Tryz.prog [("strconv.ErrRange", .iface "*errors.errorString" (.ptr (.agg [.lit (.string [118, 97, 108, 117, 101, 32, 111, 117, 116, 32, 111, 102, 32, 114, 97, 110, 103, 101])]))), ("strconv.ErrSyntax", Rows.laid_strconv_ErrSyntax)] W := h2.tail
  obtain ⟨a1, s1, hv1, -, -, -⟩ := laid_sentinel h3 gErr tErr Tryz.underlying75 rowErr Tryz.underlying144 Tryz.underlying146 rfl rfl Tryz.underlying9 cellsS cells9
  exact ⟨Lib.tabIs_of_head gTab tTab Tryz.underlying134 Tryz.underlying110 cellsE cellsT h2, _, _, hv1⟩
end Go.Proofs.YtppcfpiihkaopaaGreatDoor
