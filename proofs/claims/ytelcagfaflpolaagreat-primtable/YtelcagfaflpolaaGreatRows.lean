/-
  No cell of these rows narrows 'for every input' (looked for: loops, veiled, ifaces, maps, wideKeys, modest, calm, conditions, laid).
  DERIVED. THE GIVEN ROWS OF THIS SEAT. 5 by the template 'for every input the law returns true; each argument reads behind the call as it read before'; 0 by the template 'total and deterministic' (their statements: YtelcagfaflpolaaGreatTotals.lean).
  GIVEN WITH THE SEED: the statements are not yours to turn. If you find one false, say at which input.
  Laid BY PROGRAM, IN A SANDBOX (cutbox-rows.mjs): the forced cells as the released guide's own fill.sh prints them over the translation 1616324fa7dacac9… (all of the seat's roots in one cut). By AI agents, Wed Nov 11 2026. No macro, syntax, notation, axiom, sorry.
-/
import Derived.Test.YtelcagfaflpolaaGreatChecked
import GoSem.Claim
import GoSem.ClaimJoined
import GoSem.ClaimMapViews
import Derived.JoinedTies
import Derived.KernelRfl
namespace Go.Proofs.YtelcagfaflpolaaGreat
/- THE CELL 'sum', in the pinned program and in every row, IS THE sha256 OF THE DUMP (.gsa) THAT YtelcagfaflpolaaGreatProg.lean LOADS. Nothing in Lean hashes anything: it is a label: what it is worth is what the hold of that sum in a sandbox is worth. -/
noncomputable def Tryz.pinned : Pinned := { name := "ytelcagfaflpolaagreat", sum := "1616324fa7dacac95b91f62d6178096e0814e91ca580af4c28d8e2d984281025", checked := Tryz.checked }
namespace Rows
def none {H : Type} : Left H := { results := [], args := [] }

/-- 'abacuslaw9.PrimTable': WHATEVER THE INPUT: true; the input reads as it did. -/
def primTableSpec : ChangeSpec := { name := "primTable", fn := fun _ => fun
  | [] => { results := [.lit (.bool true)], args := [] }
  | _ => none }
def primTableRow : OpenClaim := { program := "ytelcagfaflpolaagreat", sum := "1616324fa7dacac95b91f62d6178096e0814e91ca580af4c28d8e2d984281025", func := "abacus/abacuslaw9.PrimTable", spec := "primTable", inPlace := ["slices.overlaps[int]"], unfollowed := true, recurses := true, named := ["math/bits.divideError", "math/bits.overflowError"], apart := false }
def PrimTableSaid : Prop := primTableRow.holds Tryz.pinned (OpenSpec.ofChange primTableSpec)

/-- ITS FALSE NEIGHBOUR: 'it returns false'. Refute it at one input. -/
def primTableWrong : ChangeSpec := { name := "primTable", fn := fun _ => fun
  | [] => { results := [.lit (.bool false)], args := [] }
  | _ => none }
def PrimTableWrongFalsely : Prop := primTableRow.holds Tryz.pinned (OpenSpec.ofChange primTableWrong)

/-- 'abacuslaw9.PrimCells': WHATEVER THE INPUT: true; the input reads as it did. -/
def primCellsSpec : ChangeSpec := { name := "primCells", fn := fun _ => fun
  | [d1, d2] => { results := [.lit (.bool true)], args := [d1, d2] }
  | _ => none }
def primCellsRow : OpenClaim := { program := "ytelcagfaflpolaagreat", sum := "1616324fa7dacac95b91f62d6178096e0814e91ca580af4c28d8e2d984281025", func := "abacus/abacuslaw9.PrimCells", spec := "primCells", inPlace := ["slices.overlaps[int]"], unfollowed := true, recurses := true, named := ["math/bits.divideError", "math/bits.overflowError"], apart := false }
def PrimCellsSaid : Prop := primCellsRow.holds Tryz.pinned (OpenSpec.ofChange primCellsSpec)

/-- ITS FALSE NEIGHBOUR: 'it returns false'. Refute it at one input. -/
def primCellsWrong : ChangeSpec := { name := "primCells", fn := fun _ => fun
  | [d1, d2] => { results := [.lit (.bool false)], args := [d1, d2] }
  | _ => none }
def PrimCellsWrongFalsely : Prop := primCellsRow.holds Tryz.pinned (OpenSpec.ofChange primCellsWrong)

/-- 'abacuslaw9.PrimPairs': WHATEVER THE INPUT: true; the input reads as it did. -/
def primPairsSpec : ChangeSpec := { name := "primPairs", fn := fun _ => fun
  | [d1, d2, d3] => { results := [.lit (.bool true)], args := [d1, d2, d3] }
  | _ => none }
def primPairsRow : OpenClaim := { program := "ytelcagfaflpolaagreat", sum := "1616324fa7dacac95b91f62d6178096e0814e91ca580af4c28d8e2d984281025", func := "abacus/abacuslaw9.PrimPairs", spec := "primPairs", inPlace := ["slices.overlaps[int]"], unfollowed := true, recurses := true, named := ["math/bits.divideError", "math/bits.overflowError"], apart := false }
def PrimPairsSaid : Prop := primPairsRow.holds Tryz.pinned (OpenSpec.ofChange primPairsSpec)

/-- ITS FALSE NEIGHBOUR: 'it returns false'. Refute it at one input. -/
def primPairsWrong : ChangeSpec := { name := "primPairs", fn := fun _ => fun
  | [d1, d2, d3] => { results := [.lit (.bool false)], args := [d1, d2, d3] }
  | _ => none }
def PrimPairsWrongFalsely : Prop := primPairsRow.holds Tryz.pinned (OpenSpec.ofChange primPairsWrong)

/-- 'abacuslaw9.PrimCommutes': WHATEVER THE INPUT: true; the input reads as it did. -/
def primCommutesSpec : ChangeSpec := { name := "primCommutes", fn := fun _ => fun
  | [d1, d2, d3] => { results := [.lit (.bool true)], args := [d1, d2, d3] }
  | _ => none }
def primCommutesRow : OpenClaim := { program := "ytelcagfaflpolaagreat", sum := "1616324fa7dacac95b91f62d6178096e0814e91ca580af4c28d8e2d984281025", func := "abacus/abacuslaw9.PrimCommutes", spec := "primCommutes", inPlace := ["slices.overlaps[int]"], unfollowed := true, recurses := true, named := ["math/bits.divideError", "math/bits.overflowError"], apart := false }
def PrimCommutesSaid : Prop := primCommutesRow.holds Tryz.pinned (OpenSpec.ofChange primCommutesSpec)

/-- ITS FALSE NEIGHBOUR: 'it returns false'. Refute it at one input. -/
def primCommutesWrong : ChangeSpec := { name := "primCommutes", fn := fun _ => fun
  | [d1, d2, d3] => { results := [.lit (.bool false)], args := [d1, d2, d3] }
  | _ => none }
def PrimCommutesWrongFalsely : Prop := primCommutesRow.holds Tryz.pinned (OpenSpec.ofChange primCommutesWrong)

/-- 'abacuslaw9.PrimIdentity': WHATEVER THE INPUT: true; the input reads as it did. -/
def primIdentitySpec : ChangeSpec := { name := "primIdentity", fn := fun _ => fun
  | [d1, d2] => { results := [.lit (.bool true)], args := [d1, d2] }
  | _ => none }
def primIdentityRow : OpenClaim := { program := "ytelcagfaflpolaagreat", sum := "1616324fa7dacac95b91f62d6178096e0814e91ca580af4c28d8e2d984281025", func := "abacus/abacuslaw9.PrimIdentity", spec := "primIdentity", inPlace := ["slices.overlaps[int]"], unfollowed := true, recurses := true, named := ["math/bits.divideError", "math/bits.overflowError"], apart := false }
def PrimIdentitySaid : Prop := primIdentityRow.holds Tryz.pinned (OpenSpec.ofChange primIdentitySpec)

/-- ITS FALSE NEIGHBOUR: 'it returns false'. Refute it at one input. -/
def primIdentityWrong : ChangeSpec := { name := "primIdentity", fn := fun _ => fun
  | [d1, d2] => { results := [.lit (.bool false)], args := [d1, d2] }
  | _ => none }
def PrimIdentityWrongFalsely : Prop := primIdentityRow.holds Tryz.pinned (OpenSpec.ofChange primIdentityWrong)

/- THE SECOND FORM. 'bulk': how many values and letters a reading holds, each counted each time it is reached (what is shared counts as often as it is met; a slice's spare places count too). A statement '..UptoSaid' is the law's where the arguments, and the package variables that the reading takes, are together of bulk at most 1048576: NARROWER than '..Said'. Prove '..Said' where nothing that the law and all that it calls make is longer than what came in: it says more and counts as full. Else prove '..UptoSaid'. A law counts once. -/
mutual
def uptoBulk {H : Type} : DataW H → Nat
  | .lit (.string bytes) => bytes.length + 1
  | .lit _ => 1
  | .nil => 1
  | .ptr d => uptoBulk d + 1
  | .slice elems spare => uptoBulkAll elems + uptoBulkAll spare + 1
  | .agg parts => uptoBulkAll parts + 1
  | .iface _ d => uptoBulk d + 1
  | .map entries => uptoBulkEntries entries + 1
  | .held _ => 1
def uptoBulkAll {H : Type} : List (DataW H) → Nat
  | [] => 0
  | d :: r => uptoBulk d + uptoBulkAll r
def uptoBulkEntries {H : Type} : List (Lit × DataW H) → Nat
  | [] => 0
  | x :: r => uptoBulkEntry x + uptoBulkEntries r
def uptoBulkEntry {H : Type} : Lit × DataW H → Nat
  | (.string bytes, d) => bytes.length + uptoBulk d + 1
  | (_, d) => uptoBulk d + 1
 end
def uptoSmall : (H : Type) → List (DataW H) → Bool := fun _ ds => decide (uptoBulkAll ds ≤ 1048576)
def OpenSpec.upto (s : _root_.Go.ChangeSpec) : _root_.Go.OpenSpec := { _root_.Go.OpenSpec.ofChange s with cond := some uptoSmall }

/-- 'abacuslaw9.PrimTable', WHERE WHAT IT READS IS OF BULK AT MOST 1048576: true; the input reads as it did. -/
def primTableUptoRow : OpenClaim := { program := "ytelcagfaflpolaagreat", sum := "1616324fa7dacac95b91f62d6178096e0814e91ca580af4c28d8e2d984281025", func := "abacus/abacuslaw9.PrimTable", spec := "primTable", inPlace := ["slices.overlaps[int]"], unfollowed := true, recurses := true, named := ["math/bits.divideError", "math/bits.overflowError"], apart := false, narrowed := true }
def PrimTableUptoSaid : Prop := primTableUptoRow.holds Tryz.pinned (OpenSpec.upto primTableSpec)

/-- 'abacuslaw9.PrimCells', WHERE WHAT IT READS IS OF BULK AT MOST 1048576: true; the input reads as it did. -/
def primCellsUptoRow : OpenClaim := { program := "ytelcagfaflpolaagreat", sum := "1616324fa7dacac95b91f62d6178096e0814e91ca580af4c28d8e2d984281025", func := "abacus/abacuslaw9.PrimCells", spec := "primCells", inPlace := ["slices.overlaps[int]"], unfollowed := true, recurses := true, named := ["math/bits.divideError", "math/bits.overflowError"], apart := false, narrowed := true }
def PrimCellsUptoSaid : Prop := primCellsUptoRow.holds Tryz.pinned (OpenSpec.upto primCellsSpec)

/-- 'abacuslaw9.PrimPairs', WHERE WHAT IT READS IS OF BULK AT MOST 1048576: true; the input reads as it did. -/
def primPairsUptoRow : OpenClaim := { program := "ytelcagfaflpolaagreat", sum := "1616324fa7dacac95b91f62d6178096e0814e91ca580af4c28d8e2d984281025", func := "abacus/abacuslaw9.PrimPairs", spec := "primPairs", inPlace := ["slices.overlaps[int]"], unfollowed := true, recurses := true, named := ["math/bits.divideError", "math/bits.overflowError"], apart := false, narrowed := true }
def PrimPairsUptoSaid : Prop := primPairsUptoRow.holds Tryz.pinned (OpenSpec.upto primPairsSpec)

/-- 'abacuslaw9.PrimCommutes', WHERE WHAT IT READS IS OF BULK AT MOST 1048576: true; the input reads as it did. -/
def primCommutesUptoRow : OpenClaim := { program := "ytelcagfaflpolaagreat", sum := "1616324fa7dacac95b91f62d6178096e0814e91ca580af4c28d8e2d984281025", func := "abacus/abacuslaw9.PrimCommutes", spec := "primCommutes", inPlace := ["slices.overlaps[int]"], unfollowed := true, recurses := true, named := ["math/bits.divideError", "math/bits.overflowError"], apart := false, narrowed := true }
def PrimCommutesUptoSaid : Prop := primCommutesUptoRow.holds Tryz.pinned (OpenSpec.upto primCommutesSpec)

/-- 'abacuslaw9.PrimIdentity', WHERE WHAT IT READS IS OF BULK AT MOST 1048576: true; the input reads as it did. -/
def primIdentityUptoRow : OpenClaim := { program := "ytelcagfaflpolaagreat", sum := "1616324fa7dacac95b91f62d6178096e0814e91ca580af4c28d8e2d984281025", func := "abacus/abacuslaw9.PrimIdentity", spec := "primIdentity", inPlace := ["slices.overlaps[int]"], unfollowed := true, recurses := true, named := ["math/bits.divideError", "math/bits.overflowError"], apart := false, narrowed := true }
def PrimIdentityUptoSaid : Prop := primIdentityUptoRow.holds Tryz.pinned (OpenSpec.upto primIdentitySpec)

end Rows
end Go.Proofs.YtelcagfaflpolaaGreat
