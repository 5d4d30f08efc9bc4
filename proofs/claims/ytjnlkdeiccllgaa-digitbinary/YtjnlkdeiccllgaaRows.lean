/-
  No cell of these rows narrows 'for every input' (looked for: loops, veiled, ifaces, maps, wideKeys, modest, calm, conditions, laid).
  DERIVED. THE GIVEN ROWS OF THIS SEAT. 4 by the template 'for every input the law returns true; each argument reads behind the call as it read before'; 0 by the template 'total and deterministic' (their statements: YtjnlkdeiccllgaaTotals.lean).
  GIVEN WITH THE SEED: the statements are not yours to turn. If you find one false, say at which input.
  Laid BY PROGRAM, IN A SANDBOX (cutbox-rows.mjs): the forced cells as the released guide's own fill.sh prints them over the translation 90e2f8fdfd3ee8ef… (all of the seat's roots in one cut). By AI agents, Wed Nov 11 2026. No macro, syntax, notation, axiom, sorry.
-/
import Derived.Test.YtjnlkdeiccllgaaChecked
import GoSem.Claim
import GoSem.ClaimJoined
import GoSem.ClaimMapViews
import Derived.JoinedTies
import Derived.KernelRfl
namespace Go.Proofs.Ytjnlkdeiccllgaa
/- THE CELL 'sum', in the pinned program and in every row, IS THE sha256 OF THE DUMP (.gsa) THAT YtjnlkdeiccllgaaProg.lean LOADS. Nothing in Lean hashes anything: it is a label: what it is worth is what the hold of that sum in a sandbox is worth. -/
noncomputable def Try.pinned : Pinned := { name := "ytjnlkdeiccllgaa", sum := "90e2f8fdfd3ee8efe063690830f0c1f503d974ccc19afbaa2af2ac78f073e883", checked := Try.checked }
namespace Rows
def none {H : Type} : Left H := { results := [], args := [] }

/-- 'abacuslaw8.DigitCounts': WHATEVER THE INPUT: true; the input reads as it did. -/
def digitCountsSpec : ChangeSpec := { name := "digitCounts", fn := fun _ => fun
  | [d1, d2] => { results := [.lit (.bool true)], args := [d1, d2] }
  | _ => none }
def digitCountsRow : OpenClaim := { program := "ytjnlkdeiccllgaa", sum := "90e2f8fdfd3ee8efe063690830f0c1f503d974ccc19afbaa2af2ac78f073e883", func := "abacus/abacuslaw8.DigitCounts", spec := "digitCounts", unfollowed := true, recurses := true, named := ["math/bits.divideError", "math/bits.overflowError"], apart := false }
def DigitCountsSaid : Prop := digitCountsRow.holds Try.pinned (OpenSpec.ofChange digitCountsSpec)

/-- ITS FALSE NEIGHBOUR: 'it returns false'. Refute it at one input. -/
def digitCountsWrong : ChangeSpec := { name := "digitCounts", fn := fun _ => fun
  | [d1, d2] => { results := [.lit (.bool false)], args := [d1, d2] }
  | _ => none }
def DigitCountsWrongFalsely : Prop := digitCountsRow.holds Try.pinned (OpenSpec.ofChange digitCountsWrong)

/-- 'abacuslaw8.DigitCopies': WHATEVER THE INPUT: true; the input reads as it did. -/
def digitCopiesSpec : ChangeSpec := { name := "digitCopies", fn := fun _ => fun
  | [d1, d2] => { results := [.lit (.bool true)], args := [d1, d2] }
  | _ => none }
def digitCopiesRow : OpenClaim := { program := "ytjnlkdeiccllgaa", sum := "90e2f8fdfd3ee8efe063690830f0c1f503d974ccc19afbaa2af2ac78f073e883", func := "abacus/abacuslaw8.DigitCopies", spec := "digitCopies", unfollowed := true, recurses := true, named := ["math/bits.divideError", "math/bits.overflowError"], apart := false }
def DigitCopiesSaid : Prop := digitCopiesRow.holds Try.pinned (OpenSpec.ofChange digitCopiesSpec)

/-- ITS FALSE NEIGHBOUR: 'it returns false'. Refute it at one input. -/
def digitCopiesWrong : ChangeSpec := { name := "digitCopies", fn := fun _ => fun
  | [d1, d2] => { results := [.lit (.bool false)], args := [d1, d2] }
  | _ => none }
def DigitCopiesWrongFalsely : Prop := digitCopiesRow.holds Try.pinned (OpenSpec.ofChange digitCopiesWrong)

/-- 'abacuslaw8.DigitBases': WHATEVER THE INPUT: true; the input reads as it did. -/
def digitBasesSpec : ChangeSpec := { name := "digitBases", fn := fun _ => fun
  | [d1, d2] => { results := [.lit (.bool true)], args := [d1, d2] }
  | _ => none }
def digitBasesRow : OpenClaim := { program := "ytjnlkdeiccllgaa", sum := "90e2f8fdfd3ee8efe063690830f0c1f503d974ccc19afbaa2af2ac78f073e883", func := "abacus/abacuslaw8.DigitBases", spec := "digitBases", unfollowed := true, recurses := true, named := ["math/bits.divideError", "math/bits.overflowError"], apart := false }
def DigitBasesSaid : Prop := digitBasesRow.holds Try.pinned (OpenSpec.ofChange digitBasesSpec)

/-- ITS FALSE NEIGHBOUR: 'it returns false'. Refute it at one input. -/
def digitBasesWrong : ChangeSpec := { name := "digitBases", fn := fun _ => fun
  | [d1, d2] => { results := [.lit (.bool false)], args := [d1, d2] }
  | _ => none }
def DigitBasesWrongFalsely : Prop := digitBasesRow.holds Try.pinned (OpenSpec.ofChange digitBasesWrong)

/-- 'abacuslaw8.DigitBinary': WHATEVER THE INPUT: true; the input reads as it did. -/
def digitBinarySpec : ChangeSpec := { name := "digitBinary", fn := fun _ => fun
  | [d] => { results := [.lit (.bool true)], args := [d] }
  | _ => none }
def digitBinaryRow : OpenClaim := { program := "ytjnlkdeiccllgaa", sum := "90e2f8fdfd3ee8efe063690830f0c1f503d974ccc19afbaa2af2ac78f073e883", func := "abacus/abacuslaw8.DigitBinary", spec := "digitBinary", unfollowed := true, recurses := true, named := ["math/bits.divideError", "math/bits.overflowError"], apart := false }
def DigitBinarySaid : Prop := digitBinaryRow.holds Try.pinned (OpenSpec.ofChange digitBinarySpec)

/-- ITS FALSE NEIGHBOUR: 'it returns false'. Refute it at one input. -/
def digitBinaryWrong : ChangeSpec := { name := "digitBinary", fn := fun _ => fun
  | [d] => { results := [.lit (.bool false)], args := [d] }
  | _ => none }
def DigitBinaryWrongFalsely : Prop := digitBinaryRow.holds Try.pinned (OpenSpec.ofChange digitBinaryWrong)

/- THE SECOND FORM. 'bulk': how many values and letters a reading holds, each counted each time it is reached (what is shared counts as often as it is met; a slice's spare places count too). A statement '..UptoSaid' is the law's where the arguments, and the package variables that the reading takes, are together of bulk at most 1048576: NARROWER than '..Said'. Prove '..Said' where nothing that the law and all that it calls make is longer than what came in: it says more and counts as full. Else prove '..UptoSaid'. A law counts once. -/
mutual
def uptoBulk {H : Type} : DataW H → Nat
  | .lit (.string bytes) => bytes.length + 1
  | .lit _ => 1
  | .nil => 1
  | .ptr d => uptoBulk d + 1
  | .slice elems spare => uptoBulkAll elems + uptoBulkAll spare + 1
  | .agg parts => uptoBulkAll parts + 1
  | .iface _ d => uptoBulk d + 1
  | .map entries => uptoBulkEntries entries + 1
  | .held _ => 1
def uptoBulkAll {H : Type} : List (DataW H) → Nat
  | [] => 0
  | d :: r => uptoBulk d + uptoBulkAll r
def uptoBulkEntries {H : Type} : List (Lit × DataW H) → Nat
  | [] => 0
  | x :: r => uptoBulkEntry x + uptoBulkEntries r
def uptoBulkEntry {H : Type} : Lit × DataW H → Nat
  | (.string bytes, d) => bytes.length + uptoBulk d + 1
  | (_, d) => uptoBulk d + 1
 end
def uptoSmall : (H : Type) → List (DataW H) → Bool := fun _ ds => decide (uptoBulkAll ds ≤ 1048576)
def OpenSpec.upto (s : _root_.Go.ChangeSpec) : _root_.Go.OpenSpec := { _root_.Go.OpenSpec.ofChange s with cond := some uptoSmall }

/-- 'abacuslaw8.DigitCounts', WHERE WHAT IT READS IS OF BULK AT MOST 1048576: true; the input reads as it did. -/
def digitCountsUptoRow : OpenClaim := { program := "ytjnlkdeiccllgaa", sum := "90e2f8fdfd3ee8efe063690830f0c1f503d974ccc19afbaa2af2ac78f073e883", func := "abacus/abacuslaw8.DigitCounts", spec := "digitCounts", unfollowed := true, recurses := true, named := ["math/bits.divideError", "math/bits.overflowError"], apart := false, narrowed := true }
def DigitCountsUptoSaid : Prop := digitCountsUptoRow.holds Try.pinned (OpenSpec.upto digitCountsSpec)

/-- 'abacuslaw8.DigitCopies', WHERE WHAT IT READS IS OF BULK AT MOST 1048576: true; the input reads as it did. -/
def digitCopiesUptoRow : OpenClaim := { program := "ytjnlkdeiccllgaa", sum := "90e2f8fdfd3ee8efe063690830f0c1f503d974ccc19afbaa2af2ac78f073e883", func := "abacus/abacuslaw8.DigitCopies", spec := "digitCopies", unfollowed := true, recurses := true, named := ["math/bits.divideError", "math/bits.overflowError"], apart := false, narrowed := true }
def DigitCopiesUptoSaid : Prop := digitCopiesUptoRow.holds Try.pinned (OpenSpec.upto digitCopiesSpec)

/-- 'abacuslaw8.DigitBases', WHERE WHAT IT READS IS OF BULK AT MOST 1048576: true; the input reads as it did. -/
def digitBasesUptoRow : OpenClaim := { program := "ytjnlkdeiccllgaa", sum := "90e2f8fdfd3ee8efe063690830f0c1f503d974ccc19afbaa2af2ac78f073e883", func := "abacus/abacuslaw8.DigitBases", spec := "digitBases", unfollowed := true, recurses := true, named := ["math/bits.divideError", "math/bits.overflowError"], apart := false, narrowed := true }
def DigitBasesUptoSaid : Prop := digitBasesUptoRow.holds Try.pinned (OpenSpec.upto digitBasesSpec)

/-- 'abacuslaw8.DigitBinary', WHERE WHAT IT READS IS OF BULK AT MOST 1048576: true; the input reads as it did. -/
def digitBinaryUptoRow : OpenClaim := { program := "ytjnlkdeiccllgaa", sum := "90e2f8fdfd3ee8efe063690830f0c1f503d974ccc19afbaa2af2ac78f073e883", func := "abacus/abacuslaw8.DigitBinary", spec := "digitBinary", unfollowed := true, recurses := true, named := ["math/bits.divideError", "math/bits.overflowError"], apart := false, narrowed := true }
def DigitBinaryUptoSaid : Prop := digitBinaryUptoRow.holds Try.pinned (OpenSpec.upto digitBinarySpec)

end Rows
end Go.Proofs.Ytjnlkdeiccllgaa
