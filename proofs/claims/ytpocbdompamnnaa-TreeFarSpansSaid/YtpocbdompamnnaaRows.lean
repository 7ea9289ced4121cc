/-
  No cell of these rows narrows 'for every input' (looked for: loops, veiled, ifaces, maps, wideKeys, modest, calm, conditions, laid).
  DERIVED. THE GIVEN ROWS OF THIS SEAT. 4 by the template 'for every input the law returns true; each argument reads behind the call as it read before'; 0 by the template 'total and deterministic' (their statements: YtpocbdompamnnaaTotals.lean).
  GIVEN WITH THE SEED: the statements are not yours to turn. If you find one false, say at which input.
  Laid BY PROGRAM, IN A SANDBOX (cutbox-rows.mjs): the forced cells as the released guide's own fill.sh prints them over the translation bdc40e9aef55c9bc… (all of the seat's roots in one cut). By AI agents, Wed Nov 11 2026. No macro, syntax, notation, axiom, sorry.
-/
import Derived.Test.YtpocbdompamnnaaChecked
import GoSem.Claim
import GoSem.ClaimJoined
import GoSem.ClaimMapViews
import Derived.JoinedTies
import Derived.KernelRfl
namespace Go.Proofs.Ytpocbdompamnnaa
/- THE CELL 'sum', in the pinned program and in every row, IS THE sha256 OF THE DUMP (.gsa) THAT YtpocbdompamnnaaProg.lean LOADS. Nothing in Lean hashes anything: it is a label: what it is worth is what the hold of that sum in a sandbox is worth. -/
noncomputable def Try.pinned : Pinned := { name := "ytpocbdompamnnaa", sum := "bdc40e9aef55c9bc27d256434b5aae15dcdd7e8263a0a500b54ea2363a0c8097", checked := Try.checked }
namespace Rows
def none {H : Type} : Left H := { results := [], args := [] }

/-- 'facetlaw05.TreeBuilds': WHATEVER THE INPUT: true; the input reads as it did. -/
def treeBuildsSpec : ChangeSpec := { name := "treeBuilds", fn := fun _ => fun
  | [d1, d2] => { results := [.lit (.bool true)], args := [d1, d2] }
  | _ => none }
def treeBuildsRow : OpenClaim := { program := "ytpocbdompamnnaa", sum := "bdc40e9aef55c9bc27d256434b5aae15dcdd7e8263a0a500b54ea2363a0c8097", func := "facet/facetlaw05.TreeBuilds", spec := "treeBuilds", unfollowed := true, recurses := true, apart := false }
def TreeBuildsSaid : Prop := treeBuildsRow.holds Try.pinned (OpenSpec.ofChange treeBuildsSpec)

/-- ITS FALSE NEIGHBOUR: 'it returns false'. Refute it at one input. -/
def treeBuildsWrong : ChangeSpec := { name := "treeBuilds", fn := fun _ => fun
  | [d1, d2] => { results := [.lit (.bool false)], args := [d1, d2] }
  | _ => none }
def TreeBuildsWrongFalsely : Prop := treeBuildsRow.holds Try.pinned (OpenSpec.ofChange treeBuildsWrong)

/-- 'facetlaw05.TreeChecks': WHATEVER THE INPUT: true; the input reads as it did. -/
def treeChecksSpec : ChangeSpec := { name := "treeChecks", fn := fun _ => fun
  | [d1, d2] => { results := [.lit (.bool true)], args := [d1, d2] }
  | _ => none }
def treeChecksRow : OpenClaim := { program := "ytpocbdompamnnaa", sum := "bdc40e9aef55c9bc27d256434b5aae15dcdd7e8263a0a500b54ea2363a0c8097", func := "facet/facetlaw05.TreeChecks", spec := "treeChecks", unfollowed := true, recurses := true, apart := false }
def TreeChecksSaid : Prop := treeChecksRow.holds Try.pinned (OpenSpec.ofChange treeChecksSpec)

/-- ITS FALSE NEIGHBOUR: 'it returns false'. Refute it at one input. -/
def treeChecksWrong : ChangeSpec := { name := "treeChecks", fn := fun _ => fun
  | [d1, d2] => { results := [.lit (.bool false)], args := [d1, d2] }
  | _ => none }
def TreeChecksWrongFalsely : Prop := treeChecksRow.holds Try.pinned (OpenSpec.ofChange treeChecksWrong)

/-- 'facetlaw05.TreeServes': WHATEVER THE INPUT: true; the input reads as it did. -/
def treeServesSpec : ChangeSpec := { name := "treeServes", fn := fun _ => fun
  | [d1, d2] => { results := [.lit (.bool true)], args := [d1, d2] }
  | _ => none }
def treeServesRow : OpenClaim := { program := "ytpocbdompamnnaa", sum := "bdc40e9aef55c9bc27d256434b5aae15dcdd7e8263a0a500b54ea2363a0c8097", func := "facet/facetlaw05.TreeServes", spec := "treeServes", unfollowed := true, recurses := true, apart := false }
def TreeServesSaid : Prop := treeServesRow.holds Try.pinned (OpenSpec.ofChange treeServesSpec)

/-- ITS FALSE NEIGHBOUR: 'it returns false'. Refute it at one input. -/
def treeServesWrong : ChangeSpec := { name := "treeServes", fn := fun _ => fun
  | [d1, d2] => { results := [.lit (.bool false)], args := [d1, d2] }
  | _ => none }
def TreeServesWrongFalsely : Prop := treeServesRow.holds Try.pinned (OpenSpec.ofChange treeServesWrong)

/-- 'facetlaw05.TreeFarSpans': WHATEVER THE INPUT: true; the input reads as it did. -/
def treeFarSpansSpec : ChangeSpec := { name := "treeFarSpans", fn := fun _ => fun
  | [d1, d2] => { results := [.lit (.bool true)], args := [d1, d2] }
  | _ => none }
def treeFarSpansRow : OpenClaim := { program := "ytpocbdompamnnaa", sum := "bdc40e9aef55c9bc27d256434b5aae15dcdd7e8263a0a500b54ea2363a0c8097", func := "facet/facetlaw05.TreeFarSpans", spec := "treeFarSpans", unfollowed := true, recurses := true, apart := false }
def TreeFarSpansSaid : Prop := treeFarSpansRow.holds Try.pinned (OpenSpec.ofChange treeFarSpansSpec)

/-- ITS FALSE NEIGHBOUR: 'it returns false'. Refute it at one input. -/
def treeFarSpansWrong : ChangeSpec := { name := "treeFarSpans", fn := fun _ => fun
  | [d1, d2] => { results := [.lit (.bool false)], args := [d1, d2] }
  | _ => none }
def TreeFarSpansWrongFalsely : Prop := treeFarSpansRow.holds Try.pinned (OpenSpec.ofChange treeFarSpansWrong)

/- THE SECOND FORM. 'bulk': how many values and letters a reading holds, each counted each time it is reached (what is shared counts as often as it is met; a slice's spare places count too). A statement '..UptoSaid' is the law's where the arguments, and the package variables that the reading takes, are together of bulk at most 1048576: NARROWER than '..Said'. Prove '..Said' where nothing that the law and all that it calls make is longer than what came in: it says more and counts as full. Else prove '..UptoSaid'. A law counts once. -/
mutual
def uptoBulk {H : Type} : DataW H → Nat
  | .lit (.string bytes) => bytes.length + 1
  | .lit _ => 1
  | .nil => 1
  | .ptr d => uptoBulk d + 1
  | .slice elems spare => uptoBulkAll elems + uptoBulkAll spare + 1
  | .agg parts => uptoBulkAll parts + 1
  | .iface _ d => uptoBulk d + 1
  | .map entries => uptoBulkEntries entries + 1
  | .held _ => 1
def uptoBulkAll {H : Type} : List (DataW H) → Nat
  | [] => 0
  | d :: r => uptoBulk d + uptoBulkAll r
def uptoBulkEntries {H : Type} : List (Lit × DataW H) → Nat
  | [] => 0
  | x :: r => uptoBulkEntry x + uptoBulkEntries r
def uptoBulkEntry {H : Type} : Lit × DataW H → Nat
  | (.string bytes, d) => bytes.length + uptoBulk d + 1
  | (_, d) => uptoBulk d + 1
 end
def uptoSmall : (H : Type) → List (DataW H) → Bool := fun _ ds => decide (uptoBulkAll ds ≤ 1048576)
def OpenSpec.upto (s : _root_.Go.ChangeSpec) : _root_.Go.OpenSpec := { _root_.Go.OpenSpec.ofChange s with cond := some uptoSmall }

/-- 'facetlaw05.TreeBuilds', WHERE WHAT IT READS IS OF BULK AT MOST 1048576: true; the input reads as it did. -/
def treeBuildsUptoRow : OpenClaim := { program := "ytpocbdompamnnaa", sum := "bdc40e9aef55c9bc27d256434b5aae15dcdd7e8263a0a500b54ea2363a0c8097", func := "facet/facetlaw05.TreeBuilds", spec := "treeBuilds", unfollowed := true, recurses := true, apart := false, narrowed := true }
def TreeBuildsUptoSaid : Prop := treeBuildsUptoRow.holds Try.pinned (OpenSpec.upto treeBuildsSpec)

/-- 'facetlaw05.TreeChecks', WHERE WHAT IT READS IS OF BULK AT MOST 1048576: true; the input reads as it did. -/
def treeChecksUptoRow : OpenClaim := { program := "ytpocbdompamnnaa", sum := "bdc40e9aef55c9bc27d256434b5aae15dcdd7e8263a0a500b54ea2363a0c8097", func := "facet/facetlaw05.TreeChecks", spec := "treeChecks", unfollowed := true, recurses := true, apart := false, narrowed := true }
def TreeChecksUptoSaid : Prop := treeChecksUptoRow.holds Try.pinned (OpenSpec.upto treeChecksSpec)

/-- 'facetlaw05.TreeServes', WHERE WHAT IT READS IS OF BULK AT MOST 1048576: true; the input reads as it did. -/
def treeServesUptoRow : OpenClaim := { program := "ytpocbdompamnnaa", sum := "bdc40e9aef55c9bc27d256434b5aae15dcdd7e8263a0a500b54ea2363a0c8097", func := "facet/facetlaw05.TreeServes", spec := "treeServes", unfollowed := true, recurses := true, apart := false, narrowed := true }
def TreeServesUptoSaid : Prop := treeServesUptoRow.holds Try.pinned (OpenSpec.upto treeServesSpec)

/-- 'facetlaw05.TreeFarSpans', WHERE WHAT IT READS IS OF BULK AT MOST 1048576: true; the input reads as it did. -/
def treeFarSpansUptoRow : OpenClaim := { program := "ytpocbdompamnnaa", sum := "bdc40e9aef55c9bc27d256434b5aae15dcdd7e8263a0a500b54ea2363a0c8097", func := "facet/facetlaw05.TreeFarSpans", spec := "treeFarSpans", unfollowed := true, recurses := true, apart := false, narrowed := true }
def TreeFarSpansUptoSaid : Prop := treeFarSpansUptoRow.holds Try.pinned (OpenSpec.upto treeFarSpansSpec)

end Rows
end Go.Proofs.Ytpocbdompamnnaa
