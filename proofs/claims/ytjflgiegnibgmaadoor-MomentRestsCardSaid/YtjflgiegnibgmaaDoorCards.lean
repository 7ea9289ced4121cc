/-
  DERIVED. GIVEN WITH THE SEED: THE CARDS: each row of YtjflgiegnibgmaaDoorRows.lean that lists a variable, with what it lists TIED to the program's text (the seventh form; the later family's looks); each row that meets fmt, with fmt's text TOLD by the authors' own Lean function (tested against real Go, not proved from fmt's source: count such statements apart). THE CARD IS WHAT COUNTS. Prove the row's statement (the work); the ties are given (YtjflgiegnibgmaaDoorTie.lean); close each card by the builder's one call (the guide's Derived/Test/ToyasCard.lean, 'card_holds'). Laid BY PROGRAM, IN A SANDBOX (cutbox-door.mjs). By AI agents, Wed Nov 11 2026. No macro, syntax, notation, axiom, sorry.
-/
import Derived.Test.YtjflgiegnibgmaaDoorRows
import GoSem.ClaimSeven
namespace Go.Proofs.YtjflgiegnibgmaaDoor
namespace Rows

/-- THE TIED CARD OF 'facetlaw04.MomentOf'. -/
def momentOfCard : Claim7 := { stood := { row := momentOfRow, standIns := [], harness := (true, "bfbf1811a8427d18759374f716ed1ceec41a499f4697a4936859021d83e38921"), looks := false }, kinds := [], alts := [], laidByText := true, laidKinds := [.data], laidTests := true, laidLooks := .later }
def MomentOfCardSaid : Prop := Claim7.holds Tryd.pinned (.plain (OpenSpec.ofChange momentOfSpec)) momentOfCard

/-- THE TIED CARD OF 'facetlaw04.MomentUnites'. -/
def momentUnitesCard : Claim7 := { stood := { row := momentUnitesRow, standIns := [], harness := (true, "bfbf1811a8427d18759374f716ed1ceec41a499f4697a4936859021d83e38921"), looks := false }, kinds := [], alts := [], laidByText := true, laidKinds := [.data], laidTests := true, laidLooks := .later }
def MomentUnitesCardSaid : Prop := Claim7.holds Tryd.pinned (.plain (OpenSpec.ofChange momentUnitesSpec)) momentUnitesCard

/-- THE TIED CARD OF 'facetlaw04.MomentScales'. -/
def momentScalesCard : Claim7 := { stood := { row := momentScalesRow, standIns := [], harness := (true, "bfbf1811a8427d18759374f716ed1ceec41a499f4697a4936859021d83e38921"), looks := false }, kinds := [], alts := [], laidByText := true, laidKinds := [.data], laidTests := true, laidLooks := .later }
def MomentScalesCardSaid : Prop := Claim7.holds Tryd.pinned (.plain (OpenSpec.ofChange momentScalesSpec)) momentScalesCard

/-- THE TIED CARD OF 'facetlaw04.MomentTerms'. -/
def momentTermsCard : Claim7 := { stood := { row := momentTermsRow, standIns := [], harness := (true, "bfbf1811a8427d18759374f716ed1ceec41a499f4697a4936859021d83e38921"), looks := false }, kinds := [], alts := [], laidByText := true, laidKinds := [.data], laidTests := true, laidLooks := .later }
def MomentTermsCardSaid : Prop := Claim7.holds Tryd.pinned (.plain (OpenSpec.ofChange momentTermsSpec)) momentTermsCard

/-- THE TIED CARD OF 'facetlaw04.MomentRests'. -/
def momentRestsCard : Claim7 := { stood := { row := momentRestsRow, standIns := [], harness := (true, "bfbf1811a8427d18759374f716ed1ceec41a499f4697a4936859021d83e38921"), looks := false }, kinds := [], alts := [], laidByText := true, laidKinds := [.data], laidTests := true, laidLooks := .later }
def MomentRestsCardSaid : Prop := Claim7.holds Tryd.pinned (.plain (OpenSpec.ofChange momentRestsSpec)) momentRestsCard

/-- THE TIED CARD OF 'facetlaw04.MomentFars'. -/
def momentFarsCard : Claim7 := { stood := { row := momentFarsRow, standIns := [], harness := (true, "bfbf1811a8427d18759374f716ed1ceec41a499f4697a4936859021d83e38921"), looks := false }, kinds := [], alts := [], laidByText := true, laidKinds := [.data], laidTests := true, laidLooks := .later }
def MomentFarsCardSaid : Prop := Claim7.holds Tryd.pinned (.plain (OpenSpec.ofChange momentFarsSpec)) momentFarsCard

/-- THE SECOND FORM's CARD OF 'facetlaw04.MomentOf'. -/
def momentOfUptoCard : Claim7 := { stood := { row := momentOfUptoRow, standIns := [], harness := (true, "bfbf1811a8427d18759374f716ed1ceec41a499f4697a4936859021d83e38921"), looks := false }, kinds := [], alts := [], laidByText := true, laidKinds := [.data], laidTests := true, laidLooks := .later }
def MomentOfUptoCardSaid : Prop := Claim7.holds Tryd.pinned (.plain (OpenSpec.upto momentOfSpec)) momentOfUptoCard

/-- THE SECOND FORM's CARD OF 'facetlaw04.MomentUnites'. -/
def momentUnitesUptoCard : Claim7 := { stood := { row := momentUnitesUptoRow, standIns := [], harness := (true, "bfbf1811a8427d18759374f716ed1ceec41a499f4697a4936859021d83e38921"), looks := false }, kinds := [], alts := [], laidByText := true, laidKinds := [.data], laidTests := true, laidLooks := .later }
def MomentUnitesUptoCardSaid : Prop := Claim7.holds Tryd.pinned (.plain (OpenSpec.upto momentUnitesSpec)) momentUnitesUptoCard

/-- THE SECOND FORM's CARD OF 'facetlaw04.MomentScales'. -/
def momentScalesUptoCard : Claim7 := { stood := { row := momentScalesUptoRow, standIns := [], harness := (true, "bfbf1811a8427d18759374f716ed1ceec41a499f4697a4936859021d83e38921"), looks := false }, kinds := [], alts := [], laidByText := true, laidKinds := [.data], laidTests := true, laidLooks := .later }
def MomentScalesUptoCardSaid : Prop := Claim7.holds Tryd.pinned (.plain (OpenSpec.upto momentScalesSpec)) momentScalesUptoCard

/-- THE SECOND FORM's CARD OF 'facetlaw04.MomentTerms'. -/
def momentTermsUptoCard : Claim7 := { stood := { row := momentTermsUptoRow, standIns := [], harness := (true, "bfbf1811a8427d18759374f716ed1ceec41a499f4697a4936859021d83e38921"), looks := false }, kinds := [], alts := [], laidByText := true, laidKinds := [.data], laidTests := true, laidLooks := .later }
def MomentTermsUptoCardSaid : Prop := Claim7.holds Tryd.pinned (.plain (OpenSpec.upto momentTermsSpec)) momentTermsUptoCard

/-- THE SECOND FORM's CARD OF 'facetlaw04.MomentRests'. -/
def momentRestsUptoCard : Claim7 := { stood := { row := momentRestsUptoRow, standIns := [], harness := (true, "bfbf1811a8427d18759374f716ed1ceec41a499f4697a4936859021d83e38921"), looks := false }, kinds := [], alts := [], laidByText := true, laidKinds := [.data], laidTests := true, laidLooks := .later }
def MomentRestsUptoCardSaid : Prop := Claim7.holds Tryd.pinned (.plain (OpenSpec.upto momentRestsSpec)) momentRestsUptoCard

/-- THE SECOND FORM's CARD OF 'facetlaw04.MomentFars'. -/
def momentFarsUptoCard : Claim7 := { stood := { row := momentFarsUptoRow, standIns := [], harness := (true, "bfbf1811a8427d18759374f716ed1ceec41a499f4697a4936859021d83e38921"), looks := false }, kinds := [], alts := [], laidByText := true, laidKinds := [.data], laidTests := true, laidLooks := .later }
def MomentFarsUptoCardSaid : Prop := Claim7.holds Tryd.pinned (.plain (OpenSpec.upto momentFarsSpec)) momentFarsUptoCard
end Rows
end Go.Proofs.YtjflgiegnibgmaaDoor
