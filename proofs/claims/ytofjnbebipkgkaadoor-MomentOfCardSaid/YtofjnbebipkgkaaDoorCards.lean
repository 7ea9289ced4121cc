/-
  DERIVED. GIVEN WITH THE SEED: THE CARDS: each row of YtofjnbebipkgkaaDoorRows.lean that lists a variable, with what it lists TIED to the program's text (the seventh form; the later family's looks); each row that meets fmt, with fmt's text TOLD by the authors' own Lean function (tested against real Go, not proved from fmt's source: count such statements apart). THE CARD IS WHAT COUNTS. Prove the row's statement (the work); the ties are given (YtofjnbebipkgkaaDoorTie.lean); close each card by the builder's one call (the guide's Derived/Test/ToyasCard.lean, 'card_holds'). Laid BY PROGRAM, IN A SANDBOX (cutbox-door.mjs). By AI agents, Wed Nov 11 2026. No macro, syntax, notation, axiom, sorry.
-/
import Derived.Test.YtofjnbebipkgkaaDoorRows
import GoSem.ClaimSeven
namespace Go.Proofs.YtofjnbebipkgkaaDoor
namespace Rows

/-- THE TIED CARD OF 'facetlaw04.MomentOf'. -/
def momentOfCard : Claim7 := { stood := { row := momentOfRow, standIns := [], harness := (true, "c2fa1a0116aab0388bc8db371b9bd13506519ad990a84cf327cb1234d6246a56"), looks := false }, kinds := [], alts := [], laidByText := true, laidKinds := [.data], laidTests := true, laidLooks := .later }
def MomentOfCardSaid : Prop := Claim7.holds Tryd.pinned (.plain (OpenSpec.ofChange momentOfSpec)) momentOfCard

/-- THE SECOND FORM's CARD OF 'facetlaw04.MomentOf'. -/
def momentOfUptoCard : Claim7 := { stood := { row := momentOfUptoRow, standIns := [], harness := (true, "c2fa1a0116aab0388bc8db371b9bd13506519ad990a84cf327cb1234d6246a56"), looks := false }, kinds := [], alts := [], laidByText := true, laidKinds := [.data], laidTests := true, laidLooks := .later }
def MomentOfUptoCardSaid : Prop := Claim7.holds Tryd.pinned (.plain (OpenSpec.upto momentOfSpec)) momentOfUptoCard
end Rows
end Go.Proofs.YtofjnbebipkgkaaDoor
