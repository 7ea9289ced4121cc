/-
  No cell of these rows narrows 'for every input' (looked for: loops, veiled, ifaces, maps, wideKeys, modest, calm, conditions, laid).
  DERIVED. THE GIVEN ROWS OF THIS SEAT. 4 by the template 'for every input the law returns true; each argument reads behind the call as it read before'; 0 by the template 'total and deterministic' (their statements: YtlegalibjkeccaaTotals.lean).
  GIVEN WITH THE SEED: the statements are not yours to turn. If you find one false, say at which input.
  Laid BY PROGRAM, IN A SANDBOX (cutbox-rows.mjs): the forced cells as the released guide's own fill.sh prints them over the translation 00edf5eaf879818c… (all of the seat's roots in one cut). By AI agents, Wed Nov 11 2026. No macro, syntax, notation, axiom, sorry.
-/
import Derived.Test.YtlegalibjkeccaaChecked
import GoSem.Claim
import GoSem.ClaimJoined
import GoSem.ClaimMapViews
import Derived.JoinedTies
import Derived.KernelRfl
namespace Go.Proofs.Ytlegalibjkeccaa
/- THE CELL 'sum', in the pinned program and in every row, IS THE sha256 OF THE DUMP (.gsa) THAT YtlegalibjkeccaaProg.lean LOADS. Nothing in Lean hashes anything: it is a label: what it is worth is what the hold of that sum in a sandbox is worth. -/
noncomputable def Try.pinned : Pinned := { name := "ytlegalibjkeccaa", sum := "00edf5eaf879818c315fac2c8222fc256a4323ee32912646407330a61c256ee5", checked := Try.checked }
namespace Rows
def none {H : Type} : Left H := { results := [], args := [] }

/-- 'facetlaw08.SoundTimes': WHATEVER THE INPUT: true; the input reads as it did. -/
def soundTimesSpec : ChangeSpec := { name := "soundTimes", fn := fun _ => fun
  | [d1, d2, d3] => { results := [.lit (.bool true)], args := [d1, d2, d3] }
  | _ => none }
def soundTimesRow : OpenClaim := { program := "ytlegalibjkeccaa", sum := "00edf5eaf879818c315fac2c8222fc256a4323ee32912646407330a61c256ee5", func := "facet/facetlaw08.SoundTimes", spec := "soundTimes", unfollowed := true, recurses := true, apart := false }
def SoundTimesSaid : Prop := soundTimesRow.holds Try.pinned (OpenSpec.ofChange soundTimesSpec)

/-- ITS FALSE NEIGHBOUR: 'it returns false'. Refute it at one input. -/
def soundTimesWrong : ChangeSpec := { name := "soundTimes", fn := fun _ => fun
  | [d1, d2, d3] => { results := [.lit (.bool false)], args := [d1, d2, d3] }
  | _ => none }
def SoundTimesWrongFalsely : Prop := soundTimesRow.holds Try.pinned (OpenSpec.ofChange soundTimesWrong)

/-- 'facetlaw08.SoundTravels': WHATEVER THE INPUT: true; the input reads as it did. -/
def soundTravelsSpec : ChangeSpec := { name := "soundTravels", fn := fun _ => fun
  | [d1, d2, d3] => { results := [.lit (.bool true)], args := [d1, d2, d3] }
  | _ => none }
def soundTravelsRow : OpenClaim := { program := "ytlegalibjkeccaa", sum := "00edf5eaf879818c315fac2c8222fc256a4323ee32912646407330a61c256ee5", func := "facet/facetlaw08.SoundTravels", spec := "soundTravels", unfollowed := true, recurses := true, apart := false }
def SoundTravelsSaid : Prop := soundTravelsRow.holds Try.pinned (OpenSpec.ofChange soundTravelsSpec)

/-- ITS FALSE NEIGHBOUR: 'it returns false'. Refute it at one input. -/
def soundTravelsWrong : ChangeSpec := { name := "soundTravels", fn := fun _ => fun
  | [d1, d2, d3] => { results := [.lit (.bool false)], args := [d1, d2, d3] }
  | _ => none }
def SoundTravelsWrongFalsely : Prop := soundTravelsRow.holds Try.pinned (OpenSpec.ofChange soundTravelsWrong)

/-- 'facetlaw08.SoundDelays': WHATEVER THE INPUT: true; the input reads as it did. -/
def soundDelaysSpec : ChangeSpec := { name := "soundDelays", fn := fun _ => fun
  | [d1, d2] => { results := [.lit (.bool true)], args := [d1, d2] }
  | _ => none }
def soundDelaysRow : OpenClaim := { program := "ytlegalibjkeccaa", sum := "00edf5eaf879818c315fac2c8222fc256a4323ee32912646407330a61c256ee5", func := "facet/facetlaw08.SoundDelays", spec := "soundDelays", unfollowed := true, recurses := true, apart := false }
def SoundDelaysSaid : Prop := soundDelaysRow.holds Try.pinned (OpenSpec.ofChange soundDelaysSpec)

/-- ITS FALSE NEIGHBOUR: 'it returns false'. Refute it at one input. -/
def soundDelaysWrong : ChangeSpec := { name := "soundDelays", fn := fun _ => fun
  | [d1, d2] => { results := [.lit (.bool false)], args := [d1, d2] }
  | _ => none }
def SoundDelaysWrongFalsely : Prop := soundDelaysRow.holds Try.pinned (OpenSpec.ofChange soundDelaysWrong)

/-- 'facetlaw08.SoundImages': WHATEVER THE INPUT: true; the input reads as it did. -/
def soundImagesSpec : ChangeSpec := { name := "soundImages", fn := fun _ => fun
  | [d1, d2] => { results := [.lit (.bool true)], args := [d1, d2] }
  | _ => none }
def soundImagesRow : OpenClaim := { program := "ytlegalibjkeccaa", sum := "00edf5eaf879818c315fac2c8222fc256a4323ee32912646407330a61c256ee5", func := "facet/facetlaw08.SoundImages", spec := "soundImages", unfollowed := true, recurses := true, apart := false }
def SoundImagesSaid : Prop := soundImagesRow.holds Try.pinned (OpenSpec.ofChange soundImagesSpec)

/-- ITS FALSE NEIGHBOUR: 'it returns false'. Refute it at one input. -/
def soundImagesWrong : ChangeSpec := { name := "soundImages", fn := fun _ => fun
  | [d1, d2] => { results := [.lit (.bool false)], args := [d1, d2] }
  | _ => none }
def SoundImagesWrongFalsely : Prop := soundImagesRow.holds Try.pinned (OpenSpec.ofChange soundImagesWrong)

/- THE SECOND FORM. 'bulk': how many values and letters a reading holds, each counted each time it is reached (what is shared counts as often as it is met; a slice's spare places count too). A statement '..UptoSaid' is the law's where the arguments, and the package variables that the reading takes, are together of bulk at most 1048576: NARROWER than '..Said'. Prove '..Said' where nothing that the law and all that it calls make is longer than what came in: it says more and counts as full. Else prove '..UptoSaid'. A law counts once. -/
mutual
def uptoBulk {H : Type} : DataW H → Nat
  | .lit (.string bytes) => bytes.length + 1
  | .lit _ => 1
  | .nil => 1
  | .ptr d => uptoBulk d + 1
  | .slice elems spare => uptoBulkAll elems + uptoBulkAll spare + 1
  | .agg parts => uptoBulkAll parts + 1
  | .iface _ d => uptoBulk d + 1
  | .map entries => uptoBulkEntries entries + 1
  | .held _ => 1
def uptoBulkAll {H : Type} : List (DataW H) → Nat
  | [] => 0
  | d :: r => uptoBulk d + uptoBulkAll r
def uptoBulkEntries {H : Type} : List (Lit × DataW H) → Nat
  | [] => 0
  | x :: r => uptoBulkEntry x + uptoBulkEntries r
def uptoBulkEntry {H : Type} : Lit × DataW H → Nat
  | (.string bytes, d) => bytes.length + uptoBulk d + 1
  | (_, d) => uptoBulk d + 1
 end
def uptoSmall : (H : Type) → List (DataW H) → Bool := fun _ ds => decide (uptoBulkAll ds ≤ 1048576)
def OpenSpec.upto (s : _root_.Go.ChangeSpec) : _root_.Go.OpenSpec := { _root_.Go.OpenSpec.ofChange s with cond := some uptoSmall }

/-- 'facetlaw08.SoundTimes', WHERE WHAT IT READS IS OF BULK AT MOST 1048576: true; the input reads as it did. -/
def soundTimesUptoRow : OpenClaim := { program := "ytlegalibjkeccaa", sum := "00edf5eaf879818c315fac2c8222fc256a4323ee32912646407330a61c256ee5", func := "facet/facetlaw08.SoundTimes", spec := "soundTimes", unfollowed := true, recurses := true, apart := false, narrowed := true }
def SoundTimesUptoSaid : Prop := soundTimesUptoRow.holds Try.pinned (OpenSpec.upto soundTimesSpec)

/-- 'facetlaw08.SoundTravels', WHERE WHAT IT READS IS OF BULK AT MOST 1048576: true; the input reads as it did. -/
def soundTravelsUptoRow : OpenClaim := { program := "ytlegalibjkeccaa", sum := "00edf5eaf879818c315fac2c8222fc256a4323ee32912646407330a61c256ee5", func := "facet/facetlaw08.SoundTravels", spec := "soundTravels", unfollowed := true, recurses := true, apart := false, narrowed := true }
def SoundTravelsUptoSaid : Prop := soundTravelsUptoRow.holds Try.pinned (OpenSpec.upto soundTravelsSpec)

/-- 'facetlaw08.SoundDelays', WHERE WHAT IT READS IS OF BULK AT MOST 1048576: true; the input reads as it did. -/
def soundDelaysUptoRow : OpenClaim := { program := "ytlegalibjkeccaa", sum := "00edf5eaf879818c315fac2c8222fc256a4323ee32912646407330a61c256ee5", func := "facet/facetlaw08.SoundDelays", spec := "soundDelays", unfollowed := true, recurses := true, apart := false, narrowed := true }
def SoundDelaysUptoSaid : Prop := soundDelaysUptoRow.holds Try.pinned (OpenSpec.upto soundDelaysSpec)

/-- 'facetlaw08.SoundImages', WHERE WHAT IT READS IS OF BULK AT MOST 1048576: true; the input reads as it did. -/
def soundImagesUptoRow : OpenClaim := { program := "ytlegalibjkeccaa", sum := "00edf5eaf879818c315fac2c8222fc256a4323ee32912646407330a61c256ee5", func := "facet/facetlaw08.SoundImages", spec := "soundImages", unfollowed := true, recurses := true, apart := false, narrowed := true }
def SoundImagesUptoSaid : Prop := soundImagesUptoRow.holds Try.pinned (OpenSpec.upto soundImagesSpec)

end Rows
end Go.Proofs.Ytlegalibjkeccaa
