/- From an argument's reading to its list: slices of numbers, and slices of such slices. -/
import Derived.Test.YtedidfjonkepoaaRows
import Derived.Test.YtedidfjonkepoaaBegun
import Derived.ProofKit
import Derived.OpenShut
import Derived.ChangeOld
import Derived.Below
import Derived.Deep.Slices
import Derived.SizedLaws
namespace Go.Proofs.Ytedidfjonkepoaa
open Go.ChangeShapes Go.WideShapes Go.ChangeAt Go.RowKit
set_option linter.unusedVariables false

theorem own : ownKnob Try.prog.godebug = none := by kernel_rfl
theorem laidOut : laidOutB Try.prog = true := by kernel_rfl
theorem cells3 : Try.prog.cellsOf 3 = 1 := by kernel_rfl
theorem cells25 : Try.prog.cellsOf 25 = 1 := by kernel_rfl
theorem bytes3 : Try.checked.prog.bytesOf 3 = 8 := by kernel_rfl
theorem bytes25 : Try.checked.prog.bytesOf 25 = 24 := by kernel_rfl

theorem cells_one {W : World} {a : Addr} {cs : List Value} (h : W.cells? 0 a 1 = some cs) : ∃ v, cs = [v] ∧ W.cell? a = some v := by
  obtain ⟨_, hl, hg⟩ := World.cells?_some h
  match cs, hl with
  | [c], _ =>
    have := hg 0 (by omega)
    have e : a.add 0 = a := by cases a; rfl
    rw [e] at this
    exact ⟨c, rfl, by simpa using this⟩

theorem addr_none {W : World} {a : Addr} {v : Value} (h : W.cell? a = some v) : ∃ b off, a = ⟨b, off, none⟩ := by
  obtain ⟨b, off, spot⟩ := a
  have := World.cell?_spot h
  simp at this
  subst this
  exact ⟨b, off, rfl⟩

/-- A slice of numbers that was read is a list. -/
theorem open_list {H : Type} {enc : TypeId × Value → H} {W : World} {fuel : Nat} {a : Option Addr} {len cap : Nat} {x : DataW H × List MemPlace} (h : DataW.trod enc Try.prog W 0 (fun _ => true) true fuel 25 [.slice a len cap] = some x)
    (hz : ∀ elems spare, x.1 = .slice elems spare → (elems.length + spare.length) * 8 ≤ 140737488351232) : ∃ zs, Rd W a len zs ∧ Sl a len cap := by
  rcases Go.Deep.open_slice Try.underlying25 h with ⟨hcs, _⟩ | ⟨a', len', cap', m, n, D, Pl, hcs, _, hl, hm, hmm, hx, hel⟩
  · cases hcs
    exact ⟨[], Rd.nil _, fun _ => ⟨rfl, rfl⟩, by omega, by omega⟩
  · cases hcs
    simp at hmm
    subst hmm
    have hroom : m * 8 ≤ 140737488351232 := by
      have := hz _ _ (by rw [hx])
      simp at this
      omega
    unfold maxLen at hm
    have hq : ∀ i, i < len → ∃ z : Int, W.cell? (a'.add i) = some (.int .i64 z) ∧ -9223372036854775808 ≤ z ∧ z ≤ 9223372036854775807 := by
      intro i hi
      obtain ⟨cs', h1, h2⟩ := hel i (by omega)
      rw [cells3, Nat.mul_one] at h1
      obtain ⟨v, rfl, hv⟩ := cells_one h1
      obtain ⟨z, e, _, wf⟩ := DataW.trod_int Try.underlying3 h2
      simp at e
      subst e
      exact ⟨z, hv, bounds_i64 wf⟩
    obtain ⟨f, hf⟩ := Go.Deep.choose_lt hq
    refine ⟨(List.range len).map f, ⟨by simp, by omega, fun k hk => by rw [nth_mk _ _ _ hk]; exact (hf k hk).2, fun h0 => ?_⟩, fun e => (by cases e), hl, by omega⟩
    have h00 := (hf 0 h0).1
    have e0 : a'.add 0 = a' := by cases a'; rfl
    rw [e0] at h00
    obtain ⟨b, off, rfl⟩ := addr_none h00
    have hb := World.block_lt_of_cell? W _ h00
    exact ⟨b, off, rfl, hb, fun k hk => by rw [nth_mk _ _ _ hk]; have := (hf k hk).1; rwa [add_at] at this⟩
end Go.Proofs.Ytedidfjonkepoaa
