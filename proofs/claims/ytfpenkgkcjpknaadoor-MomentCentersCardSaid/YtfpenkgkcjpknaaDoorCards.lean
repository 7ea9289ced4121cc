/-
  DERIVED. GIVEN WITH THE SEED: THE CARDS: each row of YtfpenkgkcjpknaaDoorRows.lean that lists a variable, with what it lists TIED to the program's text (the seventh form; the later family's looks); each row that meets fmt, with fmt's text TOLD by the authors' own Lean function (tested against real Go, not proved from fmt's source: count such statements apart). THE CARD IS WHAT COUNTS. Prove the row's statement (the work); the ties are given (YtfpenkgkcjpknaaDoorTie.lean); close each card by the builder's one call (the guide's Derived/Test/ToyasCard.lean, 'card_holds'). Laid BY PROGRAM, IN A SANDBOX (cutbox-door.mjs). By AI agents, Wed Nov 11 2026. No macro, syntax, notation, axiom, sorry.
-/
import Derived.Test.YtfpenkgkcjpknaaDoorRows
import GoSem.ClaimSeven
namespace Go.Proofs.YtfpenkgkcjpknaaDoor
namespace Rows

/-- THE TIED CARD OF 'facetlaw04.MomentOf'. -/
def momentOfCard : Claim7 := { stood := { row := momentOfRow, standIns := [], harness := (true, "1944396715d26045a41e8c3462de0ebab31c004cf1b3f4db96a4fc5b4bd4151f"), looks := false }, kinds := [], alts := [], laidByText := true, laidKinds := [.data], laidTests := true, laidLooks := .later }
def MomentOfCardSaid : Prop := Claim7.holds Tryd.pinned (.plain (OpenSpec.ofChange momentOfSpec)) momentOfCard

/-- THE TIED CARD OF 'facetlaw04.MomentUnites'. -/
def momentUnitesCard : Claim7 := { stood := { row := momentUnitesRow, standIns := [], harness := (true, "1944396715d26045a41e8c3462de0ebab31c004cf1b3f4db96a4fc5b4bd4151f"), looks := false }, kinds := [], alts := [], laidByText := true, laidKinds := [.data], laidTests := true, laidLooks := .later }
def MomentUnitesCardSaid : Prop := Claim7.holds Tryd.pinned (.plain (OpenSpec.ofChange momentUnitesSpec)) momentUnitesCard

/-- THE TIED CARD OF 'facetlaw04.MomentValid'. -/
def momentValidCard : Claim7 := { stood := { row := momentValidRow, standIns := [], harness := (true, "1944396715d26045a41e8c3462de0ebab31c004cf1b3f4db96a4fc5b4bd4151f"), looks := false }, kinds := [], alts := [], laidByText := true, laidKinds := [.data], laidTests := true, laidLooks := .later }
def MomentValidCardSaid : Prop := Claim7.holds Tryd.pinned (.plain (OpenSpec.ofChange momentValidSpec)) momentValidCard

/-- THE TIED CARD OF 'facetlaw04.MomentAdds'. -/
def momentAddsCard : Claim7 := { stood := { row := momentAddsRow, standIns := [], harness := (true, "1944396715d26045a41e8c3462de0ebab31c004cf1b3f4db96a4fc5b4bd4151f"), looks := false }, kinds := [], alts := [], laidByText := true, laidKinds := [.data], laidTests := true, laidLooks := .later }
def MomentAddsCardSaid : Prop := Claim7.holds Tryd.pinned (.plain (OpenSpec.ofChange momentAddsSpec)) momentAddsCard

/-- THE TIED CARD OF 'facetlaw04.MomentShifts'. -/
def momentShiftsCard : Claim7 := { stood := { row := momentShiftsRow, standIns := [], harness := (true, "1944396715d26045a41e8c3462de0ebab31c004cf1b3f4db96a4fc5b4bd4151f"), looks := false }, kinds := [], alts := [], laidByText := true, laidKinds := [.data], laidTests := true, laidLooks := .later }
def MomentShiftsCardSaid : Prop := Claim7.holds Tryd.pinned (.plain (OpenSpec.ofChange momentShiftsSpec)) momentShiftsCard

/-- THE TIED CARD OF 'facetlaw04.MomentCenters'. -/
def momentCentersCard : Claim7 := { stood := { row := momentCentersRow, standIns := [], harness := (true, "1944396715d26045a41e8c3462de0ebab31c004cf1b3f4db96a4fc5b4bd4151f"), looks := false }, kinds := [], alts := [], laidByText := true, laidKinds := [.data], laidTests := true, laidLooks := .later }
def MomentCentersCardSaid : Prop := Claim7.holds Tryd.pinned (.plain (OpenSpec.ofChange momentCentersSpec)) momentCentersCard

/-- THE TIED CARD OF 'facetlaw04.MomentScales'. -/
def momentScalesCard : Claim7 := { stood := { row := momentScalesRow, standIns := [], harness := (true, "1944396715d26045a41e8c3462de0ebab31c004cf1b3f4db96a4fc5b4bd4151f"), looks := false }, kinds := [], alts := [], laidByText := true, laidKinds := [.data], laidTests := true, laidLooks := .later }
def MomentScalesCardSaid : Prop := Claim7.holds Tryd.pinned (.plain (OpenSpec.ofChange momentScalesSpec)) momentScalesCard

/-- THE TIED CARD OF 'facetlaw04.MomentTerms'. -/
def momentTermsCard : Claim7 := { stood := { row := momentTermsRow, standIns := [], harness := (true, "1944396715d26045a41e8c3462de0ebab31c004cf1b3f4db96a4fc5b4bd4151f"), looks := false }, kinds := [], alts := [], laidByText := true, laidKinds := [.data], laidTests := true, laidLooks := .later }
def MomentTermsCardSaid : Prop := Claim7.holds Tryd.pinned (.plain (OpenSpec.ofChange momentTermsSpec)) momentTermsCard

/-- THE TIED CARD OF 'facetlaw04.MomentRests'. -/
def momentRestsCard : Claim7 := { stood := { row := momentRestsRow, standIns := [], harness := (true, "1944396715d26045a41e8c3462de0ebab31c004cf1b3f4db96a4fc5b4bd4151f"), looks := false }, kinds := [], alts := [], laidByText := true, laidKinds := [.data], laidTests := true, laidLooks := .later }
def MomentRestsCardSaid : Prop := Claim7.holds Tryd.pinned (.plain (OpenSpec.ofChange momentRestsSpec)) momentRestsCard

/-- THE SECOND FORM's CARD OF 'facetlaw04.MomentOf'. -/
def momentOfUptoCard : Claim7 := { stood := { row := momentOfUptoRow, standIns := [], harness := (true, "1944396715d26045a41e8c3462de0ebab31c004cf1b3f4db96a4fc5b4bd4151f"), looks := false }, kinds := [], alts := [], laidByText := true, laidKinds := [.data], laidTests := true, laidLooks := .later }
def MomentOfUptoCardSaid : Prop := Claim7.holds Tryd.pinned (.plain (OpenSpec.upto momentOfSpec)) momentOfUptoCard

/-- THE SECOND FORM's CARD OF 'facetlaw04.MomentUnites'. -/
def momentUnitesUptoCard : Claim7 := { stood := { row := momentUnitesUptoRow, standIns := [], harness := (true, "1944396715d26045a41e8c3462de0ebab31c004cf1b3f4db96a4fc5b4bd4151f"), looks := false }, kinds := [], alts := [], laidByText := true, laidKinds := [.data], laidTests := true, laidLooks := .later }
def MomentUnitesUptoCardSaid : Prop := Claim7.holds Tryd.pinned (.plain (OpenSpec.upto momentUnitesSpec)) momentUnitesUptoCard

/-- THE SECOND FORM's CARD OF 'facetlaw04.MomentValid'. -/
def momentValidUptoCard : Claim7 := { stood := { row := momentValidUptoRow, standIns := [], harness := (true, "1944396715d26045a41e8c3462de0ebab31c004cf1b3f4db96a4fc5b4bd4151f"), looks := false }, kinds := [], alts := [], laidByText := true, laidKinds := [.data], laidTests := true, laidLooks := .later }
def MomentValidUptoCardSaid : Prop := Claim7.holds Tryd.pinned (.plain (OpenSpec.upto momentValidSpec)) momentValidUptoCard

/-- THE SECOND FORM's CARD OF 'facetlaw04.MomentAdds'. -/
def momentAddsUptoCard : Claim7 := { stood := { row := momentAddsUptoRow, standIns := [], harness := (true, "1944396715d26045a41e8c3462de0ebab31c004cf1b3f4db96a4fc5b4bd4151f"), looks := false }, kinds := [], alts := [], laidByText := true, laidKinds := [.data], laidTests := true, laidLooks := .later }
def MomentAddsUptoCardSaid : Prop := Claim7.holds Tryd.pinned (.plain (OpenSpec.upto momentAddsSpec)) momentAddsUptoCard

/-- THE SECOND FORM's CARD OF 'facetlaw04.MomentShifts'. -/
def momentShiftsUptoCard : Claim7 := { stood := { row := momentShiftsUptoRow, standIns := [], harness := (true, "1944396715d26045a41e8c3462de0ebab31c004cf1b3f4db96a4fc5b4bd4151f"), looks := false }, kinds := [], alts := [], laidByText := true, laidKinds := [.data], laidTests := true, laidLooks := .later }
def MomentShiftsUptoCardSaid : Prop := Claim7.holds Tryd.pinned (.plain (OpenSpec.upto momentShiftsSpec)) momentShiftsUptoCard

/-- THE SECOND FORM's CARD OF 'facetlaw04.MomentCenters'. -/
def momentCentersUptoCard : Claim7 := { stood := { row := momentCentersUptoRow, standIns := [], harness := (true, "1944396715d26045a41e8c3462de0ebab31c004cf1b3f4db96a4fc5b4bd4151f"), looks := false }, kinds := [], alts := [], laidByText := true, laidKinds := [.data], laidTests := true, laidLooks := .later }
def MomentCentersUptoCardSaid : Prop := Claim7.holds Tryd.pinned (.plain (OpenSpec.upto momentCentersSpec)) momentCentersUptoCard

/-- THE SECOND FORM's CARD OF 'facetlaw04.MomentScales'. -/
def momentScalesUptoCard : Claim7 := { stood := { row := momentScalesUptoRow, standIns := [], harness := (true, "1944396715d26045a41e8c3462de0ebab31c004cf1b3f4db96a4fc5b4bd4151f"), looks := false }, kinds := [], alts := [], laidByText := true, laidKinds := [.data], laidTests := true, laidLooks := .later }
def MomentScalesUptoCardSaid : Prop := Claim7.holds Tryd.pinned (.plain (OpenSpec.upto momentScalesSpec)) momentScalesUptoCard

/-- THE SECOND FORM's CARD OF 'facetlaw04.MomentTerms'. -/
def momentTermsUptoCard : Claim7 := { stood := { row := momentTermsUptoRow, standIns := [], harness := (true, "1944396715d26045a41e8c3462de0ebab31c004cf1b3f4db96a4fc5b4bd4151f"), looks := false }, kinds := [], alts := [], laidByText := true, laidKinds := [.data], laidTests := true, laidLooks := .later }
def MomentTermsUptoCardSaid : Prop := Claim7.holds Tryd.pinned (.plain (OpenSpec.upto momentTermsSpec)) momentTermsUptoCard

/-- THE SECOND FORM's CARD OF 'facetlaw04.MomentRests'. -/
def momentRestsUptoCard : Claim7 := { stood := { row := momentRestsUptoRow, standIns := [], harness := (true, "1944396715d26045a41e8c3462de0ebab31c004cf1b3f4db96a4fc5b4bd4151f"), looks := false }, kinds := [], alts := [], laidByText := true, laidKinds := [.data], laidTests := true, laidLooks := .later }
def MomentRestsUptoCardSaid : Prop := Claim7.holds Tryd.pinned (.plain (OpenSpec.upto momentRestsSpec)) momentRestsUptoCard
end Rows
end Go.Proofs.YtfpenkgkcjpknaaDoor
