/-
  No cell of these rows narrows 'for every input' (looked for: loops, veiled, ifaces, maps, wideKeys, modest, calm, conditions, laid).
  DERIVED. THE GIVEN ROWS OF THIS SEAT. 5 by the template 'for every input the law returns true; each argument reads behind the call as it read before'; 0 by the template 'total and deterministic' (their statements: YtemchbdlckcmkaaTotals.lean).
  GIVEN WITH THE SEED: the statements are not yours to turn. If you find one false, say at which input.
  Laid BY PROGRAM, IN A SANDBOX (cutbox-rows.mjs): the forced cells as the released guide's own fill.sh prints them over the translation 231004a3d0d23eac… (all of the seat's roots in one cut). By AI agents, Wed Nov 11 2026. No macro, syntax, notation, axiom, sorry.
-/
import Derived.Test.YtemchbdlckcmkaaChecked
import GoSem.Claim
import GoSem.ClaimJoined
import GoSem.ClaimMapViews
import Derived.JoinedTies
import Derived.KernelRfl
namespace Go.Proofs.Ytemchbdlckcmkaa
/- THE CELL 'sum', in the pinned program and in every row, IS THE sha256 OF THE DUMP (.gsa) THAT YtemchbdlckcmkaaProg.lean LOADS. Nothing in Lean hashes anything: it is a label: what it is worth is what the hold of that sum in a sandbox is worth. -/
noncomputable def Try.pinned : Pinned := { name := "ytemchbdlckcmkaa", sum := "231004a3d0d23eacdc1b77c2fcda63eccedc40e8284a79415aa763124006007d", checked := Try.checked }
namespace Rows
def none {H : Type} : Left H := { results := [], args := [] }

/-- 'facetlaw08.SoundHears': WHATEVER THE INPUT: true; the input reads as it did. -/
def soundHearsSpec : ChangeSpec := { name := "soundHears", fn := fun _ => fun
  | [d1, d2] => { results := [.lit (.bool true)], args := [d1, d2] }
  | _ => none }
def soundHearsRow : OpenClaim := { program := "ytemchbdlckcmkaa", sum := "231004a3d0d23eacdc1b77c2fcda63eccedc40e8284a79415aa763124006007d", func := "facet/facetlaw08.SoundHears", spec := "soundHears", unfollowed := true, recurses := true, apart := false }
def SoundHearsSaid : Prop := soundHearsRow.holds Try.pinned (OpenSpec.ofChange soundHearsSpec)

/-- ITS FALSE NEIGHBOUR: 'it returns false'. Refute it at one input. -/
def soundHearsWrong : ChangeSpec := { name := "soundHears", fn := fun _ => fun
  | [d1, d2] => { results := [.lit (.bool false)], args := [d1, d2] }
  | _ => none }
def SoundHearsWrongFalsely : Prop := soundHearsRow.holds Try.pinned (OpenSpec.ofChange soundHearsWrong)

/-- 'facetlaw08.SoundLater': WHATEVER THE INPUT: true; the input reads as it did. -/
def soundLaterSpec : ChangeSpec := { name := "soundLater", fn := fun _ => fun
  | [d1, d2, d3] => { results := [.lit (.bool true)], args := [d1, d2, d3] }
  | _ => none }
def soundLaterRow : OpenClaim := { program := "ytemchbdlckcmkaa", sum := "231004a3d0d23eacdc1b77c2fcda63eccedc40e8284a79415aa763124006007d", func := "facet/facetlaw08.SoundLater", spec := "soundLater", unfollowed := true, recurses := true, apart := false }
def SoundLaterSaid : Prop := soundLaterRow.holds Try.pinned (OpenSpec.ofChange soundLaterSpec)

/-- ITS FALSE NEIGHBOUR: 'it returns false'. Refute it at one input. -/
def soundLaterWrong : ChangeSpec := { name := "soundLater", fn := fun _ => fun
  | [d1, d2, d3] => { results := [.lit (.bool false)], args := [d1, d2, d3] }
  | _ => none }
def SoundLaterWrongFalsely : Prop := soundLaterRow.holds Try.pinned (OpenSpec.ofChange soundLaterWrong)

/-- 'facetlaw08.SoundWalls': WHATEVER THE INPUT: true; the input reads as it did. -/
def soundWallsSpec : ChangeSpec := { name := "soundWalls", fn := fun _ => fun
  | [d1, d2] => { results := [.lit (.bool true)], args := [d1, d2] }
  | _ => none }
def soundWallsRow : OpenClaim := { program := "ytemchbdlckcmkaa", sum := "231004a3d0d23eacdc1b77c2fcda63eccedc40e8284a79415aa763124006007d", func := "facet/facetlaw08.SoundWalls", spec := "soundWalls", unfollowed := true, recurses := true, apart := false }
def SoundWallsSaid : Prop := soundWallsRow.holds Try.pinned (OpenSpec.ofChange soundWallsSpec)

/-- ITS FALSE NEIGHBOUR: 'it returns false'. Refute it at one input. -/
def soundWallsWrong : ChangeSpec := { name := "soundWalls", fn := fun _ => fun
  | [d1, d2] => { results := [.lit (.bool false)], args := [d1, d2] }
  | _ => none }
def SoundWallsWrongFalsely : Prop := soundWallsRow.holds Try.pinned (OpenSpec.ofChange soundWallsWrong)

/-- 'facetlaw08.SoundTraces': WHATEVER THE INPUT: true; the input reads as it did. -/
def soundTracesSpec : ChangeSpec := { name := "soundTraces", fn := fun _ => fun
  | [d1, d2] => { results := [.lit (.bool true)], args := [d1, d2] }
  | _ => none }
def soundTracesRow : OpenClaim := { program := "ytemchbdlckcmkaa", sum := "231004a3d0d23eacdc1b77c2fcda63eccedc40e8284a79415aa763124006007d", func := "facet/facetlaw08.SoundTraces", spec := "soundTraces", unfollowed := true, recurses := true, apart := false }
def SoundTracesSaid : Prop := soundTracesRow.holds Try.pinned (OpenSpec.ofChange soundTracesSpec)

/-- ITS FALSE NEIGHBOUR: 'it returns false'. Refute it at one input. -/
def soundTracesWrong : ChangeSpec := { name := "soundTraces", fn := fun _ => fun
  | [d1, d2] => { results := [.lit (.bool false)], args := [d1, d2] }
  | _ => none }
def SoundTracesWrongFalsely : Prop := soundTracesRow.holds Try.pinned (OpenSpec.ofChange soundTracesWrong)

/-- 'facetlaw08.SoundJoins': WHATEVER THE INPUT: true; the input reads as it did. -/
def soundJoinsSpec : ChangeSpec := { name := "soundJoins", fn := fun _ => fun
  | [d1, d2, d3] => { results := [.lit (.bool true)], args := [d1, d2, d3] }
  | _ => none }
def soundJoinsRow : OpenClaim := { program := "ytemchbdlckcmkaa", sum := "231004a3d0d23eacdc1b77c2fcda63eccedc40e8284a79415aa763124006007d", func := "facet/facetlaw08.SoundJoins", spec := "soundJoins", unfollowed := true, recurses := true, apart := false }
def SoundJoinsSaid : Prop := soundJoinsRow.holds Try.pinned (OpenSpec.ofChange soundJoinsSpec)

/-- ITS FALSE NEIGHBOUR: 'it returns false'. Refute it at one input. -/
def soundJoinsWrong : ChangeSpec := { name := "soundJoins", fn := fun _ => fun
  | [d1, d2, d3] => { results := [.lit (.bool false)], args := [d1, d2, d3] }
  | _ => none }
def SoundJoinsWrongFalsely : Prop := soundJoinsRow.holds Try.pinned (OpenSpec.ofChange soundJoinsWrong)

/- THE SECOND FORM. 'bulk': how many values and letters a reading holds, each counted each time it is reached (what is shared counts as often as it is met; a slice's spare places count too). A statement '..UptoSaid' is the law's where the arguments, and the package variables that the reading takes, are together of bulk at most 1048576: NARROWER than '..Said'. Prove '..Said' where nothing that the law and all that it calls make is longer than what came in: it says more and counts as full. Else prove '..UptoSaid'. A law counts once. -/
mutual
def uptoBulk {H : Type} : DataW H → Nat
  | .lit (.string bytes) => bytes.length + 1
  | .lit _ => 1
  | .nil => 1
  | .ptr d => uptoBulk d + 1
  | .slice elems spare => uptoBulkAll elems + uptoBulkAll spare + 1
  | .agg parts => uptoBulkAll parts + 1
  | .iface _ d => uptoBulk d + 1
  | .map entries => uptoBulkEntries entries + 1
  | .held _ => 1
def uptoBulkAll {H : Type} : List (DataW H) → Nat
  | [] => 0
  | d :: r => uptoBulk d + uptoBulkAll r
def uptoBulkEntries {H : Type} : List (Lit × DataW H) → Nat
  | [] => 0
  | x :: r => uptoBulkEntry x + uptoBulkEntries r
def uptoBulkEntry {H : Type} : Lit × DataW H → Nat
  | (.string bytes, d) => bytes.length + uptoBulk d + 1
  | (_, d) => uptoBulk d + 1
 end
def uptoSmall : (H : Type) → List (DataW H) → Bool := fun _ ds => decide (uptoBulkAll ds ≤ 1048576)
def OpenSpec.upto (s : _root_.Go.ChangeSpec) : _root_.Go.OpenSpec := { _root_.Go.OpenSpec.ofChange s with cond := some uptoSmall }

/-- 'facetlaw08.SoundHears', WHERE WHAT IT READS IS OF BULK AT MOST 1048576: true; the input reads as it did. -/
def soundHearsUptoRow : OpenClaim := { program := "ytemchbdlckcmkaa", sum := "231004a3d0d23eacdc1b77c2fcda63eccedc40e8284a79415aa763124006007d", func := "facet/facetlaw08.SoundHears", spec := "soundHears", unfollowed := true, recurses := true, apart := false, narrowed := true }
def SoundHearsUptoSaid : Prop := soundHearsUptoRow.holds Try.pinned (OpenSpec.upto soundHearsSpec)

/-- 'facetlaw08.SoundLater', WHERE WHAT IT READS IS OF BULK AT MOST 1048576: true; the input reads as it did. -/
def soundLaterUptoRow : OpenClaim := { program := "ytemchbdlckcmkaa", sum := "231004a3d0d23eacdc1b77c2fcda63eccedc40e8284a79415aa763124006007d", func := "facet/facetlaw08.SoundLater", spec := "soundLater", unfollowed := true, recurses := true, apart := false, narrowed := true }
def SoundLaterUptoSaid : Prop := soundLaterUptoRow.holds Try.pinned (OpenSpec.upto soundLaterSpec)

/-- 'facetlaw08.SoundWalls', WHERE WHAT IT READS IS OF BULK AT MOST 1048576: true; the input reads as it did. -/
def soundWallsUptoRow : OpenClaim := { program := "ytemchbdlckcmkaa", sum := "231004a3d0d23eacdc1b77c2fcda63eccedc40e8284a79415aa763124006007d", func := "facet/facetlaw08.SoundWalls", spec := "soundWalls", unfollowed := true, recurses := true, apart := false, narrowed := true }
def SoundWallsUptoSaid : Prop := soundWallsUptoRow.holds Try.pinned (OpenSpec.upto soundWallsSpec)

/-- 'facetlaw08.SoundTraces', WHERE WHAT IT READS IS OF BULK AT MOST 1048576: true; the input reads as it did. -/
def soundTracesUptoRow : OpenClaim := { program := "ytemchbdlckcmkaa", sum := "231004a3d0d23eacdc1b77c2fcda63eccedc40e8284a79415aa763124006007d", func := "facet/facetlaw08.SoundTraces", spec := "soundTraces", unfollowed := true, recurses := true, apart := false, narrowed := true }
def SoundTracesUptoSaid : Prop := soundTracesUptoRow.holds Try.pinned (OpenSpec.upto soundTracesSpec)

/-- 'facetlaw08.SoundJoins', WHERE WHAT IT READS IS OF BULK AT MOST 1048576: true; the input reads as it did. -/
def soundJoinsUptoRow : OpenClaim := { program := "ytemchbdlckcmkaa", sum := "231004a3d0d23eacdc1b77c2fcda63eccedc40e8284a79415aa763124006007d", func := "facet/facetlaw08.SoundJoins", spec := "soundJoins", unfollowed := true, recurses := true, apart := false, narrowed := true }
def SoundJoinsUptoSaid : Prop := soundJoinsUptoRow.holds Try.pinned (OpenSpec.upto soundJoinsSpec)

end Rows
end Go.Proofs.Ytemchbdlckcmkaa
