/-
  No cell of these rows narrows 'for every input' (looked for: loops, veiled, ifaces, maps, wideKeys, modest, calm, conditions, laid).
  DERIVED. THE GIVEN ROWS OF THIS SEAT. 6 by the template 'for every input the law returns true; each argument reads behind the call as it read before'; 0 by the template 'total and deterministic' (their statements: YtaobchjdeeijcaaTotals.lean).
  GIVEN WITH THE SEED: the statements are not yours to turn. If you find one false, say at which input.
  Laid BY PROGRAM, IN A SANDBOX (cutbox-rows.mjs): the forced cells as the released guide's own fill.sh prints them over the translation 253a7933d70602b9… (all of the seat's roots in one cut). By AI agents, Wed Nov 11 2026. No macro, syntax, notation, axiom, sorry.
-/
import Derived.Test.YtaobchjdeeijcaaChecked
import GoSem.Claim
import GoSem.ClaimJoined
import GoSem.ClaimMapViews
import Derived.JoinedTies
import Derived.KernelRfl
namespace Go.Proofs.Ytaobchjdeeijcaa
/- THE CELL 'sum', in the pinned program and in every row, IS THE sha256 OF THE DUMP (.gsa) THAT YtaobchjdeeijcaaProg.lean LOADS. Nothing in Lean hashes anything: it is a label: what it is worth is what the hold of that sum in a sandbox is worth. -/
noncomputable def Try.pinned : Pinned := { name := "ytaobchjdeeijcaa", sum := "253a7933d70602b9d9cb7a7b616965c37e8cb06fae85315a73ae96fc0290bdbb", checked := Try.checked }
namespace Rows
def none {H : Type} : Left H := { results := [], args := [] }

/-- 'abacuslaw2.ShapeAll': WHATEVER THE INPUT: true; the input reads as it did. -/
def shapeAllSpec : ChangeSpec := { name := "shapeAll", fn := fun _ => fun
  | [d] => { results := [.lit (.bool true)], args := [d] }
  | _ => none }
def shapeAllRow : OpenClaim := { program := "ytaobchjdeeijcaa", sum := "253a7933d70602b9d9cb7a7b616965c37e8cb06fae85315a73ae96fc0290bdbb", func := "abacus/abacuslaw2.ShapeAll", spec := "shapeAll", unfollowed := true, recurses := true, apart := false }
def ShapeAllSaid : Prop := shapeAllRow.holds Try.pinned (OpenSpec.ofChange shapeAllSpec)

/-- ITS FALSE NEIGHBOUR: 'it returns false'. Refute it at one input. -/
def shapeAllWrong : ChangeSpec := { name := "shapeAll", fn := fun _ => fun
  | [d] => { results := [.lit (.bool false)], args := [d] }
  | _ => none }
def ShapeAllWrongFalsely : Prop := shapeAllRow.holds Try.pinned (OpenSpec.ofChange shapeAllWrong)

/-- 'abacuslaw2.ShapeFresh': WHATEVER THE INPUT: true; the input reads as it did. -/
def shapeFreshSpec : ChangeSpec := { name := "shapeFresh", fn := fun _ => fun
  | [d] => { results := [.lit (.bool true)], args := [d] }
  | _ => none }
def shapeFreshRow : OpenClaim := { program := "ytaobchjdeeijcaa", sum := "253a7933d70602b9d9cb7a7b616965c37e8cb06fae85315a73ae96fc0290bdbb", func := "abacus/abacuslaw2.ShapeFresh", spec := "shapeFresh", unfollowed := true, recurses := true, apart := false }
def ShapeFreshSaid : Prop := shapeFreshRow.holds Try.pinned (OpenSpec.ofChange shapeFreshSpec)

/-- ITS FALSE NEIGHBOUR: 'it returns false'. Refute it at one input. -/
def shapeFreshWrong : ChangeSpec := { name := "shapeFresh", fn := fun _ => fun
  | [d] => { results := [.lit (.bool false)], args := [d] }
  | _ => none }
def ShapeFreshWrongFalsely : Prop := shapeFreshRow.holds Try.pinned (OpenSpec.ofChange shapeFreshWrong)

/-- 'abacuslaw3.ArrAll': WHATEVER THE INPUT: true; the input reads as it did. -/
def arrAllSpec : ChangeSpec := { name := "arrAll", fn := fun _ => fun
  | [d] => { results := [.lit (.bool true)], args := [d] }
  | _ => none }
def arrAllRow : OpenClaim := { program := "ytaobchjdeeijcaa", sum := "253a7933d70602b9d9cb7a7b616965c37e8cb06fae85315a73ae96fc0290bdbb", func := "abacus/abacuslaw3.ArrAll", spec := "arrAll", apart := false }
def ArrAllSaid : Prop := arrAllRow.holds Try.pinned (OpenSpec.ofChange arrAllSpec)

/-- ITS FALSE NEIGHBOUR: 'it returns false'. Refute it at one input. -/
def arrAllWrong : ChangeSpec := { name := "arrAll", fn := fun _ => fun
  | [d] => { results := [.lit (.bool false)], args := [d] }
  | _ => none }
def ArrAllWrongFalsely : Prop := arrAllRow.holds Try.pinned (OpenSpec.ofChange arrAllWrong)

/-- 'abacuslaw3.ArrItems': WHATEVER THE INPUT: true; the input reads as it did. -/
def arrItemsSpec : ChangeSpec := { name := "arrItems", fn := fun _ => fun
  | [d] => { results := [.lit (.bool true)], args := [d] }
  | _ => none }
def arrItemsRow : OpenClaim := { program := "ytaobchjdeeijcaa", sum := "253a7933d70602b9d9cb7a7b616965c37e8cb06fae85315a73ae96fc0290bdbb", func := "abacus/abacuslaw3.ArrItems", spec := "arrItems", apart := false }
def ArrItemsSaid : Prop := arrItemsRow.holds Try.pinned (OpenSpec.ofChange arrItemsSpec)

/-- ITS FALSE NEIGHBOUR: 'it returns false'. Refute it at one input. -/
def arrItemsWrong : ChangeSpec := { name := "arrItems", fn := fun _ => fun
  | [d] => { results := [.lit (.bool false)], args := [d] }
  | _ => none }
def ArrItemsWrongFalsely : Prop := arrItemsRow.holds Try.pinned (OpenSpec.ofChange arrItemsWrong)

/-- 'abacuslaw3.ArrOrder': WHATEVER THE INPUT: true; the input reads as it did. -/
def arrOrderSpec : ChangeSpec := { name := "arrOrder", fn := fun _ => fun
  | [d1, d2, d3] => { results := [.lit (.bool true)], args := [d1, d2, d3] }
  | _ => none }
def arrOrderRow : OpenClaim := { program := "ytaobchjdeeijcaa", sum := "253a7933d70602b9d9cb7a7b616965c37e8cb06fae85315a73ae96fc0290bdbb", func := "abacus/abacuslaw3.ArrOrder", spec := "arrOrder", apart := false }
def ArrOrderSaid : Prop := arrOrderRow.holds Try.pinned (OpenSpec.ofChange arrOrderSpec)

/-- ITS FALSE NEIGHBOUR: 'it returns false'. Refute it at one input. -/
def arrOrderWrong : ChangeSpec := { name := "arrOrder", fn := fun _ => fun
  | [d1, d2, d3] => { results := [.lit (.bool false)], args := [d1, d2, d3] }
  | _ => none }
def ArrOrderWrongFalsely : Prop := arrOrderRow.holds Try.pinned (OpenSpec.ofChange arrOrderWrong)

/-- 'abacuslaw3.ArrMade': WHATEVER THE INPUT: true; the input reads as it did. -/
def arrMadeSpec : ChangeSpec := { name := "arrMade", fn := fun _ => fun
  | [d1, d2, d3] => { results := [.lit (.bool true)], args := [d1, d2, d3] }
  | _ => none }
def arrMadeRow : OpenClaim := { program := "ytaobchjdeeijcaa", sum := "253a7933d70602b9d9cb7a7b616965c37e8cb06fae85315a73ae96fc0290bdbb", func := "abacus/abacuslaw3.ArrMade", spec := "arrMade", apart := false }
def ArrMadeSaid : Prop := arrMadeRow.holds Try.pinned (OpenSpec.ofChange arrMadeSpec)

/-- ITS FALSE NEIGHBOUR: 'it returns false'. Refute it at one input. -/
def arrMadeWrong : ChangeSpec := { name := "arrMade", fn := fun _ => fun
  | [d1, d2, d3] => { results := [.lit (.bool false)], args := [d1, d2, d3] }
  | _ => none }
def ArrMadeWrongFalsely : Prop := arrMadeRow.holds Try.pinned (OpenSpec.ofChange arrMadeWrong)

/- THE SECOND FORM. 'bulk': how many values and letters a reading holds, each counted each time it is reached (what is shared counts as often as it is met; a slice's spare places count too). A statement '..UptoSaid' is the law's where the arguments, and the package variables that the reading takes, are together of bulk at most 1048576: NARROWER than '..Said'. Prove '..Said' where nothing that the law and all that it calls make is longer than what came in: it says more and counts as full. Else prove '..UptoSaid'. A law counts once. -/
mutual
def uptoBulk {H : Type} : DataW H → Nat
  | .lit (.string bytes) => bytes.length + 1
  | .lit _ => 1
  | .nil => 1
  | .ptr d => uptoBulk d + 1
  | .slice elems spare => uptoBulkAll elems + uptoBulkAll spare + 1
  | .agg parts => uptoBulkAll parts + 1
  | .iface _ d => uptoBulk d + 1
  | .map entries => uptoBulkEntries entries + 1
  | .held _ => 1
def uptoBulkAll {H : Type} : List (DataW H) → Nat
  | [] => 0
  | d :: r => uptoBulk d + uptoBulkAll r
def uptoBulkEntries {H : Type} : List (Lit × DataW H) → Nat
  | [] => 0
  | x :: r => uptoBulkEntry x + uptoBulkEntries r
def uptoBulkEntry {H : Type} : Lit × DataW H → Nat
  | (.string bytes, d) => bytes.length + uptoBulk d + 1
  | (_, d) => uptoBulk d + 1
 end
def uptoSmall : (H : Type) → List (DataW H) → Bool := fun _ ds => decide (uptoBulkAll ds ≤ 1048576)
def OpenSpec.upto (s : _root_.Go.ChangeSpec) : _root_.Go.OpenSpec := { _root_.Go.OpenSpec.ofChange s with cond := some uptoSmall }

/-- 'abacuslaw2.ShapeAll', WHERE WHAT IT READS IS OF BULK AT MOST 1048576: true; the input reads as it did. -/
def shapeAllUptoRow : OpenClaim := { program := "ytaobchjdeeijcaa", sum := "253a7933d70602b9d9cb7a7b616965c37e8cb06fae85315a73ae96fc0290bdbb", func := "abacus/abacuslaw2.ShapeAll", spec := "shapeAll", unfollowed := true, recurses := true, apart := false, narrowed := true }
def ShapeAllUptoSaid : Prop := shapeAllUptoRow.holds Try.pinned (OpenSpec.upto shapeAllSpec)

/-- 'abacuslaw2.ShapeFresh', WHERE WHAT IT READS IS OF BULK AT MOST 1048576: true; the input reads as it did. -/
def shapeFreshUptoRow : OpenClaim := { program := "ytaobchjdeeijcaa", sum := "253a7933d70602b9d9cb7a7b616965c37e8cb06fae85315a73ae96fc0290bdbb", func := "abacus/abacuslaw2.ShapeFresh", spec := "shapeFresh", unfollowed := true, recurses := true, apart := false, narrowed := true }
def ShapeFreshUptoSaid : Prop := shapeFreshUptoRow.holds Try.pinned (OpenSpec.upto shapeFreshSpec)

/-- 'abacuslaw3.ArrAll', WHERE WHAT IT READS IS OF BULK AT MOST 1048576: true; the input reads as it did. -/
def arrAllUptoRow : OpenClaim := { program := "ytaobchjdeeijcaa", sum := "253a7933d70602b9d9cb7a7b616965c37e8cb06fae85315a73ae96fc0290bdbb", func := "abacus/abacuslaw3.ArrAll", spec := "arrAll", apart := false, narrowed := true }
def ArrAllUptoSaid : Prop := arrAllUptoRow.holds Try.pinned (OpenSpec.upto arrAllSpec)

/-- 'abacuslaw3.ArrItems', WHERE WHAT IT READS IS OF BULK AT MOST 1048576: true; the input reads as it did. -/
def arrItemsUptoRow : OpenClaim := { program := "ytaobchjdeeijcaa", sum := "253a7933d70602b9d9cb7a7b616965c37e8cb06fae85315a73ae96fc0290bdbb", func := "abacus/abacuslaw3.ArrItems", spec := "arrItems", apart := false, narrowed := true }
def ArrItemsUptoSaid : Prop := arrItemsUptoRow.holds Try.pinned (OpenSpec.upto arrItemsSpec)

/-- 'abacuslaw3.ArrOrder', WHERE WHAT IT READS IS OF BULK AT MOST 1048576: true; the input reads as it did. -/
def arrOrderUptoRow : OpenClaim := { program := "ytaobchjdeeijcaa", sum := "253a7933d70602b9d9cb7a7b616965c37e8cb06fae85315a73ae96fc0290bdbb", func := "abacus/abacuslaw3.ArrOrder", spec := "arrOrder", apart := false, narrowed := true }
def ArrOrderUptoSaid : Prop := arrOrderUptoRow.holds Try.pinned (OpenSpec.upto arrOrderSpec)

/-- 'abacuslaw3.ArrMade', WHERE WHAT IT READS IS OF BULK AT MOST 1048576: true; the input reads as it did. -/
def arrMadeUptoRow : OpenClaim := { program := "ytaobchjdeeijcaa", sum := "253a7933d70602b9d9cb7a7b616965c37e8cb06fae85315a73ae96fc0290bdbb", func := "abacus/abacuslaw3.ArrMade", spec := "arrMade", apart := false, narrowed := true }
def ArrMadeUptoSaid : Prop := arrMadeUptoRow.holds Try.pinned (OpenSpec.upto arrMadeSpec)

end Rows
end Go.Proofs.Ytaobchjdeeijcaa
