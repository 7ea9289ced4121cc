/-
  No cell of these rows narrows 'for every input' (looked for: loops, veiled, ifaces, maps, wideKeys, modest, calm, conditions, laid).
  DERIVED. THE GIVEN ROWS OF THIS SEAT. 3 by the template 'for every input the law returns true; each argument reads behind the call as it read before'; 0 by the template 'total and deterministic' (their statements: YtjflgiegnibgmaaTotals.lean).
  GIVEN WITH THE SEED: the statements are not yours to turn. If you find one false, say at which input.
  Laid BY PROGRAM, IN A SANDBOX (cutbox-rows.mjs): the forced cells as the released guide's own fill.sh prints them over the translation 4c748acd2554fe69… (all of the seat's roots in one cut). By AI agents, Wed Nov 11 2026. No macro, syntax, notation, axiom, sorry.
-/
import Derived.Test.YtjflgiegnibgmaaChecked
import GoSem.Claim
import GoSem.ClaimJoined
import GoSem.ClaimMapViews
import Derived.JoinedTies
import Derived.KernelRfl
namespace Go.Proofs.Ytjflgiegnibgmaa
/- THE CELL 'sum', in the pinned program and in every row, IS THE sha256 OF THE DUMP (.gsa) THAT YtjflgiegnibgmaaProg.lean LOADS. Nothing in Lean hashes anything: it is a label: what it is worth is what the hold of that sum in a sandbox is worth. -/
noncomputable def Try.pinned : Pinned := { name := "ytjflgiegnibgmaa", sum := "4c748acd2554fe699baa3fe9995f93a6975c9a3e134f70ec8e19058f0c4e9803", checked := Try.checked }
namespace Rows
def none {H : Type} : Left H := { results := [], args := [] }

/-- 'facetlaw02.ShapeMeasures': WHATEVER THE INPUT: true; the input reads as it did. -/
def shapeMeasuresSpec : ChangeSpec := { name := "shapeMeasures", fn := fun _ => fun
  | [d] => { results := [.lit (.bool true)], args := [d] }
  | _ => none }
def shapeMeasuresRow : OpenClaim := { program := "ytjflgiegnibgmaa", sum := "4c748acd2554fe699baa3fe9995f93a6975c9a3e134f70ec8e19058f0c4e9803", func := "facet/facetlaw02.ShapeMeasures", spec := "shapeMeasures", plainKeys := false, apart := false }
def ShapeMeasuresSaid : Prop := shapeMeasuresRow.holds Try.pinned (OpenSpec.ofChange shapeMeasuresSpec)

/-- ITS FALSE NEIGHBOUR: 'it returns false'. Refute it at one input. -/
def shapeMeasuresWrong : ChangeSpec := { name := "shapeMeasures", fn := fun _ => fun
  | [d] => { results := [.lit (.bool false)], args := [d] }
  | _ => none }
def ShapeMeasuresWrongFalsely : Prop := shapeMeasuresRow.holds Try.pinned (OpenSpec.ofChange shapeMeasuresWrong)

/-- 'facetlaw02.ShapeWinds': WHATEVER THE INPUT: true; the input reads as it did. -/
def shapeWindsSpec : ChangeSpec := { name := "shapeWinds", fn := fun _ => fun
  | [d1, d2] => { results := [.lit (.bool true)], args := [d1, d2] }
  | _ => none }
def shapeWindsRow : OpenClaim := { program := "ytjflgiegnibgmaa", sum := "4c748acd2554fe699baa3fe9995f93a6975c9a3e134f70ec8e19058f0c4e9803", func := "facet/facetlaw02.ShapeWinds", spec := "shapeWinds", plainKeys := false, apart := false }
def ShapeWindsSaid : Prop := shapeWindsRow.holds Try.pinned (OpenSpec.ofChange shapeWindsSpec)

/-- ITS FALSE NEIGHBOUR: 'it returns false'. Refute it at one input. -/
def shapeWindsWrong : ChangeSpec := { name := "shapeWinds", fn := fun _ => fun
  | [d1, d2] => { results := [.lit (.bool false)], args := [d1, d2] }
  | _ => none }
def ShapeWindsWrongFalsely : Prop := shapeWindsRow.holds Try.pinned (OpenSpec.ofChange shapeWindsWrong)

/-- 'facetlaw03.FieldParts': WHATEVER THE INPUT: true; the input reads as it did. -/
def fieldPartsSpec : ChangeSpec := { name := "fieldParts", fn := fun _ => fun
  | [d1, d2] => { results := [.lit (.bool true)], args := [d1, d2] }
  | _ => none }
def fieldPartsRow : OpenClaim := { program := "ytjflgiegnibgmaa", sum := "4c748acd2554fe699baa3fe9995f93a6975c9a3e134f70ec8e19058f0c4e9803", func := "facet/facetlaw03.FieldParts", spec := "fieldParts", unfollowed := true, recurses := true, plainKeys := false, apart := false }
def FieldPartsSaid : Prop := fieldPartsRow.holds Try.pinned (OpenSpec.ofChange fieldPartsSpec)

/-- ITS FALSE NEIGHBOUR: 'it returns false'. Refute it at one input. -/
def fieldPartsWrong : ChangeSpec := { name := "fieldParts", fn := fun _ => fun
  | [d1, d2] => { results := [.lit (.bool false)], args := [d1, d2] }
  | _ => none }
def FieldPartsWrongFalsely : Prop := fieldPartsRow.holds Try.pinned (OpenSpec.ofChange fieldPartsWrong)

/- THE SECOND FORM. 'bulk': how many values and letters a reading holds, each counted each time it is reached (what is shared counts as often as it is met; a slice's spare places count too). A statement '..UptoSaid' is the law's where the arguments, and the package variables that the reading takes, are together of bulk at most 1048576: NARROWER than '..Said'. Prove '..Said' where nothing that the law and all that it calls make is longer than what came in: it says more and counts as full. Else prove '..UptoSaid'. A law counts once. -/
mutual
def uptoBulk {H : Type} : DataW H → Nat
  | .lit (.string bytes) => bytes.length + 1
  | .lit _ => 1
  | .nil => 1
  | .ptr d => uptoBulk d + 1
  | .slice elems spare => uptoBulkAll elems + uptoBulkAll spare + 1
  | .agg parts => uptoBulkAll parts + 1
  | .iface _ d => uptoBulk d + 1
  | .map entries => uptoBulkEntries entries + 1
  | .held _ => 1
def uptoBulkAll {H : Type} : List (DataW H) → Nat
  | [] => 0
  | d :: r => uptoBulk d + uptoBulkAll r
def uptoBulkEntries {H : Type} : List (Lit × DataW H) → Nat
  | [] => 0
  | x :: r => uptoBulkEntry x + uptoBulkEntries r
def uptoBulkEntry {H : Type} : Lit × DataW H → Nat
  | (.string bytes, d) => bytes.length + uptoBulk d + 1
  | (_, d) => uptoBulk d + 1
 end
def uptoSmall : (H : Type) → List (DataW H) → Bool := fun _ ds => decide (uptoBulkAll ds ≤ 1048576)
def OpenSpec.upto (s : _root_.Go.ChangeSpec) : _root_.Go.OpenSpec := { _root_.Go.OpenSpec.ofChange s with cond := some uptoSmall }

/-- 'facetlaw02.ShapeMeasures', WHERE WHAT IT READS IS OF BULK AT MOST 1048576: true; the input reads as it did. -/
def shapeMeasuresUptoRow : OpenClaim := { program := "ytjflgiegnibgmaa", sum := "4c748acd2554fe699baa3fe9995f93a6975c9a3e134f70ec8e19058f0c4e9803", func := "facet/facetlaw02.ShapeMeasures", spec := "shapeMeasures", plainKeys := false, apart := false, narrowed := true }
def ShapeMeasuresUptoSaid : Prop := shapeMeasuresUptoRow.holds Try.pinned (OpenSpec.upto shapeMeasuresSpec)

/-- 'facetlaw02.ShapeWinds', WHERE WHAT IT READS IS OF BULK AT MOST 1048576: true; the input reads as it did. -/
def shapeWindsUptoRow : OpenClaim := { program := "ytjflgiegnibgmaa", sum := "4c748acd2554fe699baa3fe9995f93a6975c9a3e134f70ec8e19058f0c4e9803", func := "facet/facetlaw02.ShapeWinds", spec := "shapeWinds", plainKeys := false, apart := false, narrowed := true }
def ShapeWindsUptoSaid : Prop := shapeWindsUptoRow.holds Try.pinned (OpenSpec.upto shapeWindsSpec)

/-- 'facetlaw03.FieldParts', WHERE WHAT IT READS IS OF BULK AT MOST 1048576: true; the input reads as it did. -/
def fieldPartsUptoRow : OpenClaim := { program := "ytjflgiegnibgmaa", sum := "4c748acd2554fe699baa3fe9995f93a6975c9a3e134f70ec8e19058f0c4e9803", func := "facet/facetlaw03.FieldParts", spec := "fieldParts", unfollowed := true, recurses := true, plainKeys := false, apart := false, narrowed := true }
def FieldPartsUptoSaid : Prop := fieldPartsUptoRow.holds Try.pinned (OpenSpec.upto fieldPartsSpec)

end Rows
end Go.Proofs.Ytjflgiegnibgmaa
