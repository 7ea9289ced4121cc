/-
  No cell of these rows narrows 'for every input' (looked for: loops, veiled, ifaces, maps, wideKeys, modest, calm, conditions, laid).
  DERIVED. THE GIVEN ROWS OF THIS SEAT. 3 by the template 'for every input the law returns true; each argument reads behind the call as it read before'; 0 by the template 'total and deterministic' (their statements: YtllonfaogbdbnaaTotals.lean).
  GIVEN WITH THE SEED: the statements are not yours to turn. If you find one false, say at which input.
  Laid BY PROGRAM, IN A SANDBOX (cutbox-rows.mjs): the forced cells as the released guide's own fill.sh prints them over the translation 4f602620d97d1899… (all of the seat's roots in one cut). By AI agents, Wed Nov 11 2026. No macro, syntax, notation, axiom, sorry.
-/
import Derived.Test.YtllonfaogbdbnaaChecked
import GoSem.Claim
import GoSem.ClaimJoined
import GoSem.ClaimMapViews
import Derived.JoinedTies
import Derived.KernelRfl
namespace Go.Proofs.Ytllonfaogbdbnaa
/- THE CELL 'sum', in the pinned program and in every row, IS THE sha256 OF THE DUMP (.gsa) THAT YtllonfaogbdbnaaProg.lean LOADS. Nothing in Lean hashes anything: it is a label: what it is worth is what the hold of that sum in a sandbox is worth. -/
noncomputable def Try.pinned : Pinned := { name := "ytllonfaogbdbnaa", sum := "4f602620d97d18993d5b1ea8b4fdef523776ad13be3ab0b9f7e85813c28f1c08", checked := Try.checked }
namespace Rows
def none {H : Type} : Left H := { results := [], args := [] }

/-- 'facetlaw02.ShapeWinds': WHATEVER THE INPUT: true; the input reads as it did. -/
def shapeWindsSpec : ChangeSpec := { name := "shapeWinds", fn := fun _ => fun
  | [d1, d2] => { results := [.lit (.bool true)], args := [d1, d2] }
  | _ => none }
def shapeWindsRow : OpenClaim := { program := "ytllonfaogbdbnaa", sum := "4f602620d97d18993d5b1ea8b4fdef523776ad13be3ab0b9f7e85813c28f1c08", func := "facet/facetlaw02.ShapeWinds", spec := "shapeWinds", plainKeys := false, apart := false }
def ShapeWindsSaid : Prop := shapeWindsRow.holds Try.pinned (OpenSpec.ofChange shapeWindsSpec)

/-- ITS FALSE NEIGHBOUR: 'it returns false'. Refute it at one input. -/
def shapeWindsWrong : ChangeSpec := { name := "shapeWinds", fn := fun _ => fun
  | [d1, d2] => { results := [.lit (.bool false)], args := [d1, d2] }
  | _ => none }
def ShapeWindsWrongFalsely : Prop := shapeWindsRow.holds Try.pinned (OpenSpec.ofChange shapeWindsWrong)

/-- 'facetlaw06.CrossSkeletons': WHATEVER THE INPUT: true; the input reads as it did. -/
def crossSkeletonsSpec : ChangeSpec := { name := "crossSkeletons", fn := fun _ => fun
  | [d1, d2] => { results := [.lit (.bool true)], args := [d1, d2] }
  | _ => none }
def crossSkeletonsRow : OpenClaim := { program := "ytllonfaogbdbnaa", sum := "4f602620d97d18993d5b1ea8b4fdef523776ad13be3ab0b9f7e85813c28f1c08", func := "facet/facetlaw06.CrossSkeletons", spec := "crossSkeletons", recurses := true, plainKeys := false, apart := false }
def CrossSkeletonsSaid : Prop := crossSkeletonsRow.holds Try.pinned (OpenSpec.ofChange crossSkeletonsSpec)

/-- ITS FALSE NEIGHBOUR: 'it returns false'. Refute it at one input. -/
def crossSkeletonsWrong : ChangeSpec := { name := "crossSkeletons", fn := fun _ => fun
  | [d1, d2] => { results := [.lit (.bool false)], args := [d1, d2] }
  | _ => none }
def CrossSkeletonsWrongFalsely : Prop := crossSkeletonsRow.holds Try.pinned (OpenSpec.ofChange crossSkeletonsWrong)

/-- 'facettop.TopSkeletons': WHATEVER THE INPUT: true; the input reads as it did. -/
def topSkeletonsSpec : ChangeSpec := { name := "topSkeletons", fn := fun _ => fun
  | [d1, d2, d3] => { results := [.lit (.bool true)], args := [d1, d2, d3] }
  | _ => none }
def topSkeletonsRow : OpenClaim := { program := "ytllonfaogbdbnaa", sum := "4f602620d97d18993d5b1ea8b4fdef523776ad13be3ab0b9f7e85813c28f1c08", func := "facet/facettop.TopSkeletons", spec := "topSkeletons", recurses := true, plainKeys := false, apart := false }
def TopSkeletonsSaid : Prop := topSkeletonsRow.holds Try.pinned (OpenSpec.ofChange topSkeletonsSpec)

/-- ITS FALSE NEIGHBOUR: 'it returns false'. Refute it at one input. -/
def topSkeletonsWrong : ChangeSpec := { name := "topSkeletons", fn := fun _ => fun
  | [d1, d2, d3] => { results := [.lit (.bool false)], args := [d1, d2, d3] }
  | _ => none }
def TopSkeletonsWrongFalsely : Prop := topSkeletonsRow.holds Try.pinned (OpenSpec.ofChange topSkeletonsWrong)

/- THE SECOND FORM. 'bulk': how many values and letters a reading holds, each counted each time it is reached (what is shared counts as often as it is met; a slice's spare places count too). A statement '..UptoSaid' is the law's where the arguments, and the package variables that the reading takes, are together of bulk at most 1048576: NARROWER than '..Said'. Prove '..Said' where nothing that the law and all that it calls make is longer than what came in: it says more and counts as full. Else prove '..UptoSaid'. A law counts once. -/
mutual
def uptoBulk {H : Type} : DataW H → Nat
  | .lit (.string bytes) => bytes.length + 1
  | .lit _ => 1
  | .nil => 1
  | .ptr d => uptoBulk d + 1
  | .slice elems spare => uptoBulkAll elems + uptoBulkAll spare + 1
  | .agg parts => uptoBulkAll parts + 1
  | .iface _ d => uptoBulk d + 1
  | .map entries => uptoBulkEntries entries + 1
  | .held _ => 1
def uptoBulkAll {H : Type} : List (DataW H) → Nat
  | [] => 0
  | d :: r => uptoBulk d + uptoBulkAll r
def uptoBulkEntries {H : Type} : List (Lit × DataW H) → Nat
  | [] => 0
  | x :: r => uptoBulkEntry x + uptoBulkEntries r
def uptoBulkEntry {H : Type} : Lit × DataW H → Nat
  | (.string bytes, d) => bytes.length + uptoBulk d + 1
  | (_, d) => uptoBulk d + 1
 end
def uptoSmall : (H : Type) → List (DataW H) → Bool := fun _ ds => decide (uptoBulkAll ds ≤ 1048576)
def OpenSpec.upto (s : _root_.Go.ChangeSpec) : _root_.Go.OpenSpec := { _root_.Go.OpenSpec.ofChange s with cond := some uptoSmall }

/-- 'facetlaw02.ShapeWinds', WHERE WHAT IT READS IS OF BULK AT MOST 1048576: true; the input reads as it did. -/
def shapeWindsUptoRow : OpenClaim := { program := "ytllonfaogbdbnaa", sum := "4f602620d97d18993d5b1ea8b4fdef523776ad13be3ab0b9f7e85813c28f1c08", func := "facet/facetlaw02.ShapeWinds", spec := "shapeWinds", plainKeys := false, apart := false, narrowed := true }
def ShapeWindsUptoSaid : Prop := shapeWindsUptoRow.holds Try.pinned (OpenSpec.upto shapeWindsSpec)

/-- 'facetlaw06.CrossSkeletons', WHERE WHAT IT READS IS OF BULK AT MOST 1048576: true; the input reads as it did. -/
def crossSkeletonsUptoRow : OpenClaim := { program := "ytllonfaogbdbnaa", sum := "4f602620d97d18993d5b1ea8b4fdef523776ad13be3ab0b9f7e85813c28f1c08", func := "facet/facetlaw06.CrossSkeletons", spec := "crossSkeletons", recurses := true, plainKeys := false, apart := false, narrowed := true }
def CrossSkeletonsUptoSaid : Prop := crossSkeletonsUptoRow.holds Try.pinned (OpenSpec.upto crossSkeletonsSpec)

/-- 'facettop.TopSkeletons', WHERE WHAT IT READS IS OF BULK AT MOST 1048576: true; the input reads as it did. -/
def topSkeletonsUptoRow : OpenClaim := { program := "ytllonfaogbdbnaa", sum := "4f602620d97d18993d5b1ea8b4fdef523776ad13be3ab0b9f7e85813c28f1c08", func := "facet/facettop.TopSkeletons", spec := "topSkeletons", recurses := true, plainKeys := false, apart := false, narrowed := true }
def TopSkeletonsUptoSaid : Prop := topSkeletonsUptoRow.holds Try.pinned (OpenSpec.upto topSkeletonsSpec)

end Rows
end Go.Proofs.Ytllonfaogbdbnaa
