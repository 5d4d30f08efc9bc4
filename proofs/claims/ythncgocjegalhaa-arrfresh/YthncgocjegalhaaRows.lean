/-
  No cell of these rows narrows 'for every input' (looked for: loops, veiled, ifaces, maps, wideKeys, modest, calm, conditions, laid).
  DERIVED. THE GIVEN ROWS OF THIS SEAT. 2 by the template 'for every input the law returns true; each argument reads behind the call as it read before'; 0 by the template 'total and deterministic' (their statements: YthncgocjegalhaaTotals.lean).
  GIVEN WITH THE SEED: the statements are not yours to turn. If you find one false, say at which input.
  Laid BY PROGRAM, IN A SANDBOX (cutbox-rows.mjs): the forced cells as the released guide's own fill.sh prints them over the translation 7f88c401053ad4ec… (all of the seat's roots in one cut). By AI agents, Wed Nov 11 2026. No macro, syntax, notation, axiom, sorry.
-/
import Derived.Test.YthncgocjegalhaaChecked
import GoSem.Claim
import GoSem.ClaimJoined
import GoSem.ClaimMapViews
import Derived.JoinedTies
import Derived.KernelRfl
namespace Go.Proofs.Ythncgocjegalhaa
/- THE CELL 'sum', in the pinned program and in every row, IS THE sha256 OF THE DUMP (.gsa) THAT YthncgocjegalhaaProg.lean LOADS. Nothing in Lean hashes anything: it is a label: what it is worth is what the hold of that sum in a sandbox is worth. -/
noncomputable def Try.pinned : Pinned := { name := "ythncgocjegalhaa", sum := "7f88c401053ad4ec3c7a2190f43697e5511395997b6443641a918219da1139a5", checked := Try.checked }
namespace Rows
def none {H : Type} : Left H := { results := [], args := [] }

/-- 'abacuslaw3.ArrFresh': WHATEVER THE INPUT: true; the input reads as it did. -/
def arrFreshSpec : ChangeSpec := { name := "arrFresh", fn := fun _ => fun
  | [d] => { results := [.lit (.bool true)], args := [d] }
  | _ => none }
def arrFreshRow : OpenClaim := { program := "ythncgocjegalhaa", sum := "7f88c401053ad4ec3c7a2190f43697e5511395997b6443641a918219da1139a5", func := "abacus/abacuslaw3.ArrFresh", spec := "arrFresh", apart := false }
def ArrFreshSaid : Prop := arrFreshRow.holds Try.pinned (OpenSpec.ofChange arrFreshSpec)

/-- ITS FALSE NEIGHBOUR: 'it returns false'. Refute it at one input. -/
def arrFreshWrong : ChangeSpec := { name := "arrFresh", fn := fun _ => fun
  | [d] => { results := [.lit (.bool false)], args := [d] }
  | _ => none }
def ArrFreshWrongFalsely : Prop := arrFreshRow.holds Try.pinned (OpenSpec.ofChange arrFreshWrong)

/-- 'abacuslaw5.AtomFresh': WHATEVER THE INPUT: true; the input reads as it did. -/
def atomFreshSpec : ChangeSpec := { name := "atomFresh", fn := fun _ => fun
  | [d] => { results := [.lit (.bool true)], args := [d] }
  | _ => none }
def atomFreshRow : OpenClaim := { program := "ythncgocjegalhaa", sum := "7f88c401053ad4ec3c7a2190f43697e5511395997b6443641a918219da1139a5", func := "abacus/abacuslaw5.AtomFresh", spec := "atomFresh", unfollowed := true, recurses := true, named := ["math/bits.divideError", "math/bits.overflowError"], apart := false }
def AtomFreshSaid : Prop := atomFreshRow.holds Try.pinned (OpenSpec.ofChange atomFreshSpec)

/-- ITS FALSE NEIGHBOUR: 'it returns false'. Refute it at one input. -/
def atomFreshWrong : ChangeSpec := { name := "atomFresh", fn := fun _ => fun
  | [d] => { results := [.lit (.bool false)], args := [d] }
  | _ => none }
def AtomFreshWrongFalsely : Prop := atomFreshRow.holds Try.pinned (OpenSpec.ofChange atomFreshWrong)

/- THE SECOND FORM. 'bulk': how many values and letters a reading holds, each counted each time it is reached (what is shared counts as often as it is met; a slice's spare places count too). A statement '..UptoSaid' is the law's where the arguments, and the package variables that the reading takes, are together of bulk at most 1048576: NARROWER than '..Said'. Prove '..Said' where nothing that the law and all that it calls make is longer than what came in: it says more and counts as full. Else prove '..UptoSaid'. A law counts once. -/
mutual
def uptoBulk {H : Type} : DataW H → Nat
  | .lit (.string bytes) => bytes.length + 1
  | .lit _ => 1
  | .nil => 1
  | .ptr d => uptoBulk d + 1
  | .slice elems spare => uptoBulkAll elems + uptoBulkAll spare + 1
  | .agg parts => uptoBulkAll parts + 1
  | .iface _ d => uptoBulk d + 1
  | .map entries => uptoBulkEntries entries + 1
  | .held _ => 1
def uptoBulkAll {H : Type} : List (DataW H) → Nat
  | [] => 0
  | d :: r => uptoBulk d + uptoBulkAll r
def uptoBulkEntries {H : Type} : List (Lit × DataW H) → Nat
  | [] => 0
  | x :: r => uptoBulkEntry x + uptoBulkEntries r
def uptoBulkEntry {H : Type} : Lit × DataW H → Nat
  | (.string bytes, d) => bytes.length + uptoBulk d + 1
  | (_, d) => uptoBulk d + 1
 end
def uptoSmall : (H : Type) → List (DataW H) → Bool := fun _ ds => decide (uptoBulkAll ds ≤ 1048576)
def OpenSpec.upto (s : _root_.Go.ChangeSpec) : _root_.Go.OpenSpec := { _root_.Go.OpenSpec.ofChange s with cond := some uptoSmall }

/-- 'abacuslaw3.ArrFresh', WHERE WHAT IT READS IS OF BULK AT MOST 1048576: true; the input reads as it did. -/
def arrFreshUptoRow : OpenClaim := { program := "ythncgocjegalhaa", sum := "7f88c401053ad4ec3c7a2190f43697e5511395997b6443641a918219da1139a5", func := "abacus/abacuslaw3.ArrFresh", spec := "arrFresh", apart := false, narrowed := true }
def ArrFreshUptoSaid : Prop := arrFreshUptoRow.holds Try.pinned (OpenSpec.upto arrFreshSpec)

/-- 'abacuslaw5.AtomFresh', WHERE WHAT IT READS IS OF BULK AT MOST 1048576: true; the input reads as it did. -/
def atomFreshUptoRow : OpenClaim := { program := "ythncgocjegalhaa", sum := "7f88c401053ad4ec3c7a2190f43697e5511395997b6443641a918219da1139a5", func := "abacus/abacuslaw5.AtomFresh", spec := "atomFresh", unfollowed := true, recurses := true, named := ["math/bits.divideError", "math/bits.overflowError"], apart := false, narrowed := true }
def AtomFreshUptoSaid : Prop := atomFreshUptoRow.holds Try.pinned (OpenSpec.upto atomFreshSpec)

end Rows
end Go.Proofs.Ythncgocjegalhaa
