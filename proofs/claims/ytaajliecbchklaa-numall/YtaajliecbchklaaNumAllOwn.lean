/- It is proved that the law NumAll answers true for every script of calls, at every number of 64 bits, and leaves the script as it was; no condition. -/
import Derived.Test.YtaajliecbchklaaRows
import Derived.WalkKit
import Derived.Test.YtaajliecbchklaaAll
import Derived.ProofKit
import Derived.OpenShut
import Derived.ChangeOld
import Derived.Below
import Derived.Deep.Slices
import Derived.Lib.SmallJoins
namespace Go.Proofs.Ytaajliecbchklaa.numAll
open Go.ChangeShapes Go.WideShapes Go.ChangeAt Go.RowKit
set_option linter.unusedVariables false

theorem own : ownKnob Try.prog.godebug = none := by kernel_rfl
theorem laidOut : laidOutB Try.prog = true := by kernel_rfl
theorem cells26 : Try.prog.cellsOf 26 = 4 := by kernel_rfl
theorem cells2 : Try.prog.cellsOf 2 = 1 := by kernel_rfl
theorem cells3 : Try.prog.cellsOf 3 = 1 := by kernel_rfl

theorem add_at (b off n : Nat) : (⟨b, off, none⟩ : Addr).add n = ⟨b, off + n, none⟩ := by
  cases n with
  | zero => rfl
  | succ n => simp [Addr.add]

/-- One call of a script: four cells, each a number; the last two of 64 bits. -/
theorem elem {H : Type} {enc : TypeId × Value → H} {W : World} {n : Nat} {a : Addr} {x : DataW H × List MemPlace} {cs : List Value} (hc : W.cells? 0 a 4 = some cs) (h : DataW.trod enc Try.prog W 0 (fun _ => true) true n 26 cs = some x) :
    ∃ q : Int × Int × Int × Int, (W.cell? (a.add 0) = some (.int .i64 q.1) ∧ W.cell? (a.add 1) = some (.int .i64 q.2.1) ∧ W.cell? (a.add 2) = some (.int .i64 q.2.2.1) ∧ W.cell? (a.add 3) = some (.int .i64 q.2.2.2)) ∧ inr q.2.2.1 = true ∧ inr q.2.2.2 = true := by
  obtain ⟨_, hl, hg⟩ := World.cells?_some hc
  obtain ⟨y0, y1, y2, y3, m, _, _, h0, h1, h2, h3⟩ := Joins.trod_struct4 Try.underlying26 h
  match cs, hl with
  | [c0, c1, c2, c3], _ =>
    have g0 := hg 0 (by omega)
    have g1 := hg 1 (by omega)
    have g2 := hg 2 (by omega)
    have g3 := hg 3 (by omega)
    simp [cells2, cells3] at h0 h1 h2 h3
    obtain ⟨n0, e0, _, _⟩ := DataW.trod_int Try.underlying3 h0
    obtain ⟨n1, e1, _, _⟩ := DataW.trod_int Try.underlying3 h1
    obtain ⟨n2, e2, _, w2⟩ := DataW.trod_int Try.underlying2 h2
    obtain ⟨n3, e3, _, w3⟩ := DataW.trod_int Try.underlying2 h3
    simp at e0 e1 e2 e3
    subst e0 e1 e2 e3
    exact ⟨(n0, n1, n2, n3), ⟨by simpa using g0, by simpa using g1, by simpa using g2, by simpa using g3⟩, inr_iff.2 (bounds_i64 w2), inr_iff.2 (bounds_i64 w3)⟩

theorem walk {H : Type} {enc : TypeId × Value → H} {W : World} {fuel : Nat} {v : Value} {x : DataW H × List MemPlace} (h : DataW.trod enc Try.prog W 0 (fun _ => true) true fuel 22 v.cells.toList = some x) (hv : ∃ a len cap, v = .slice a len cap) :
    Calls Try.prog 3 #[v] W fun e w' => e = .returned (.bool true) ∧ Below W.heap.size W w' := by
  obtain ⟨a0, len0, cap0, rfl⟩ := hv
  rcases Go.Deep.open_slice Try.underlying22 h with ⟨hcs, _⟩ | ⟨a, len, cap, m, n, D, Pl, hcs, _, hl, hm, hmm, _, hel⟩
  · simp [Value.cells] at hcs
    obtain ⟨rfl, rfl, rfl⟩ := hcs
    exact all_nil W
  · simp [Value.cells] at hcs
    obtain ⟨rfl, rfl, rfl⟩ := hcs
    simp at hmm
    subst hmm
    by_cases h0 : len0 = 0
    · subst h0
      exact all_empty a _ W
    · have hq : ∀ i, i < len0 → ∃ q : Int × Int × Int × Int, (W.cell? ((a.add (i * 4)).add 0) = some (.int .i64 q.1) ∧ W.cell? ((a.add (i * 4)).add 1) = some (.int .i64 q.2.1) ∧ W.cell? ((a.add (i * 4)).add 2) = some (.int .i64 q.2.2.1) ∧ W.cell? ((a.add (i * 4)).add 3) = some (.int .i64 q.2.2.2)) ∧ inr q.2.2.1 = true ∧ inr q.2.2.2 = true := by
        intro i hi
        obtain ⟨cs', h1, h2⟩ := hel i (by omega)
        rw [cells26] at h1
        exact elem h1 h2
      obtain ⟨f, hf⟩ := Go.Deep.choose_lt hq
      obtain ⟨b, off, spot⟩ := a
      have hz := (hf 0 (by omega)).1.1
      have hspot : spot = none := by simpa [Addr.add] using World.cell?_spot hz
      subst hspot
      have hb : b < W.heap.size := by
        obtain ⟨cs', h1, _⟩ := hel 0 (by omega)
        rw [cells26] at h1
        simpa [Addr.add] using World.cells?_block h1 (by omega)
      unfold maxLen at hm
      refine all_walk b off len0 _ (fun i => (f i).1) (fun i => (f i).2.1) (fun i => (f i).2.2.1) (fun i => (f i).2.2.2) W hb (by omega) ?_ (fun i hi => (hf i hi).2)
      intro i hi
      obtain ⟨⟨k0, k1, k2, k3⟩, _⟩ := hf i hi
      rw [add_at, add_at] at k0 k1 k2 k3
      exact ⟨k0, k1, k2, k3⟩

set_option maxRecDepth 100000 in
theorem lifted (os : Os) (started : os.Started) (H : Type) (enc : TypeId × Value → H) :
    ReturnsInHanded {} Try.checked os 3 .any (Rows.numAllSpec.pre6 enc Try.prog Try.f3 Rows.numAllRow.domain false) (Rows.numAllSpec.post enc Try.prog Try.f3 false true false false) := by
  refine returnsInHanded_of_change (C := Try.checked) own started (by kernel_rfl) Try.func3
    (ChangeSpec.witness6 (enc := enc) (C := Try.checked) false ⟨#[], #[.slice none 0 0], []⟩ 8 (by kernel_rfl) (by kernel_rfl) (by kernel_rfl) (by kernel_rfl)) ?_
  intro W base args ds gs before hval0 hW hcnd _
  have hval : ∀ (j : Nat) t v, Try.f3.params[j]? = some t → args[j]? = some v → Value.okWide Try.prog W .any base t v := hval0
  have hW' := hW
  obtain ⟨p, q, hA0, hV, rfl, hfz, hnd⟩ := hW
  have hA : DataW.TrodAll enc Try.prog W 0 (fun _ => true) true Try.f3.params.toList args.toList ds p := hA0
  rw [Try.params3] at hA hval
  obtain ⟨v0, vs0, d0, ds0, p0, q0, hargs, rfl, rfl, h0, r0⟩ := trodAll_cons hA
  obtain ⟨rfl, rfl, rfl⟩ := trodAll_nil r0
  obtain rfl : args = #[v0] := by cases args; simp_all
  obtain ⟨rfl, rfl⟩ := trodVars_none hV
  have hsl := okWide_slice Try.underlying22 (hval 0 22 v0 rfl rfl)
  have k0 := h0
  have lt0 : ∀ x ∈ p0, x.block < W.heap.size := by obtain ⟨m, hm⟩ := k0; exact DataW.trod_lt m _ _ _ hm
  obtain ⟨fuel, hf⟩ := h0
  clear hA0 hval0
  refine (walk hf hsl).mono fun e W' ⟨he, bel⟩ => ?_
  subst he
  exact ⟨_, rfl, _, _, _, [], _, [], hW', trodAll_mk1 (shut_bool Try.underlying4 _), (trodAll_cons_mk (Below.trod laidOut (by kernel_rfl) (of_decide_eq_true (by kernel_rfl)) k0 bel lt0) trodAll_mk0), rfl, bel.frame _, fun h => by cases h⟩

theorem over : Rows.numAllRow.holds Try.pinned (OpenSpec.ofChange Rows.numAllSpec) :=
  OpenClaim.holds_of_wide 3 Try.f3 rfl rfl rfl rfl rfl rfl rfl ⟨rfl, rfl, rfl, rfl, rfl⟩ rfl rfl rfl rfl rfl (by kernel_rfl) Try.func3 (by kernel_rfl)
    (of_decide_eq_true (by kernel_rfl)) (by unfold Func.isWrapper; first | (rw [if_pos (by decide +kernel)]; kernel_rfl) | (rw [if_neg (by decide +kernel)]; exact ⟨rfl, rfl⟩))
    (fun os started H enc _ => lifted os started H enc)
end Go.Proofs.Ytaajliecbchklaa.numAll
namespace Go.Proofs.Ytaajliecbchklaa
theorem numAll_holds : Rows.NumAllSaid := numAll.over
#print axioms numAll_holds
end Go.Proofs.Ytaajliecbchklaa
